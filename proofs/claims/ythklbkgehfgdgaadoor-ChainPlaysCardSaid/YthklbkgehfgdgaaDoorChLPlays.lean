/- The walk of ChainPlays: it returns true, and nothing that was there has turned. Conditions: the table of widths lies in its block; the deeds' cells are known. -/
import Derived.Test.YthklbkgehfgdgaaDoorChAlike
import Derived.Deep.RegionWith
namespace Go.Proofs.YthklbkgehfgdgaaDoor
open Go.RowKit

/-- The law's arena (lists L), the document's lists (M), the variable that holds them. -/
structure Pb (w0 w : World) (p g : Nat) (L : Nat → List Nat) (f : Nat → Int) (M : Nat → List Nat) (hb ob cp : Nat) (A : Nat → Option Addr) (cc : Nat → Nat) (xb : Nat) : Prop where
  cs : Cs w0 w p g L f
  xr : Xr w ⟨w0.heap.size, g⟩ hb ob cp A cc M
  bx : Blk w xb 29 #[.slice (some ⟨hb, 0, none⟩) 3 3, .slice (some ⟨ob, 0, none⟩) 3 cp]
  off : Xo hb ob A M xb
  lo : w0.heap.size ≤ xb
  ng : xb ≠ g
  np : xb ≠ p
  w0 : 0 < w0.heap.size
section
variable {w0 w w' : World} {p g hb ob cp xb : Nat} {L L' M M' : Nat → List Nat} {f f' : Nat → Int} {A : Nat → Option Addr} {cc : Nat → Nat}
theorem Pb.below (b : Pb w0 w p g L f M hb ob cp A cc xb) (h : Below w.heap.size w w') : Pb w0 w' p g L f M hb ob cp A cc xb :=
  ⟨b.cs.below h, b.xr.below h, b.bx.below h b.bx.lt, b.off, b.lo, b.ng, b.np, b.w0⟩
theorem Pb.drew (b : Pb w0 w p g L f M hb ob cp A cc xb) : Pb w0 w.drew p g L f M hb ob cp A cc xb := b.below ((Below.refl _ w).drew)
theorem Pb.chain (b : Pb w0 w p g L f M hb ob cp A cc xb) (hc : Cs w0 w' p g L' f') (hf : Fg g w w') : Pb w0 w' p g L' f' M hb ob cp A cc xb :=
  ⟨hc, b.xr.keep hf.kx, b.bx.fg hf b.ng, b.off, b.lo, b.ng, b.np, b.w0⟩
theorem Pb.two (b : Pb w0 w p g L f M hb ob cp A cc xb) : (w.cell? ⟨xb, 0, none⟩ = some (.slice (some ⟨hb, 0, none⟩) 3 3) ∧ w.cell? ⟨xb, 1, none⟩ = some (.slice (some ⟨ob, 0, none⟩) 3 cp)) ∧ w.frozen? ⟨xb, 0, none⟩ = false ∧ w.frozen? ⟨xb, 1, none⟩ = false :=
  ⟨⟨b.bx.cell 0, b.bx.cell 1⟩, b.bx.frozen 0, b.bx.frozen 1⟩
theorem Cs.wrote (c : Cs w0 w p g L f) {q : Nat} (hq : w0.heap.size ≤ q) (hg : q ≠ g) (hp : q ≠ p) (hw : 0 < w0.heap.size) (u v : Value) : Cs w0 ((w.setCell ⟨q, 0, none⟩ u).setCell ⟨q, 1, none⟩ v) p g L f := by
  have blk : ∀ k, k ≠ q → ((w.setCell ⟨q, 0, none⟩ u).setCell ⟨q, 1, none⟩ v).heap[k]? = w.heap[k]? := fun k hk => by
    rw [Below.heap_setCell _ _ _ _ (show k ≠ q from hk), Below.heap_setCell _ _ _ _ (show k ≠ q from hk)]
  obtain ⟨t, fr, e⟩ := c.aw.tab
  exact ⟨⟨⟨t, fr, (blk _ (by omega)).trans e⟩, c.aw.wg, ⟨(blk p (Ne.symm hp)).trans c.aw.ar.head, (blk g (Ne.symm hg)).trans c.aw.ar.body, c.aw.ar.small, c.aw.ar.byte⟩⟩, c.ch,
    (c.bl.setCell (p := ⟨q, 0, none⟩) hq u).setCell (p := ⟨q, 1, none⟩) hq v, c.lo, c.rest⟩
theorem Pb.stored (b : Pb w0 w p g L f M hb ob cp A cc xb) {ob' cp' : Nat} {A' : Nat → Option Addr} {cc' : Nat → Nat} (x : Xr w ⟨w0.heap.size, g⟩ hb ob' cp' A' cc' M') (o : Xo hb ob' A' M' xb) :
    Pb w0 ((w.setCell ⟨xb, 0, none⟩ (.slice (some ⟨hb, 0, none⟩) 3 3)).setCell ⟨xb, 1, none⟩ (.slice (some ⟨ob', 0, none⟩) 3 cp')) p g L f M' hb ob' cp' A' cc' xb :=
  ⟨b.cs.wrote b.lo b.ng b.np b.w0 _ _, x.put2 o _ _, (b.bx.put 0 _).put 1 _, o, b.lo, b.ng, b.np, b.w0⟩
set_option maxRecDepth 100000 in
set_option maxHeartbeats 8000000 in
theorem plays_walk10 (A : Option Addr) (len cap : Nat) (w : World) (hD : Deeds10 w A len ∧ len ≤ 9223372036854775807) (hT : Tab w) (hB : 0 < w.heap.size) :
    Calls Tryd.prog 3 #[.slice A len cap] w fun e w' => e = .returned (.bool true) ∧ Below w.heap.size w w' := by
  obtain ⟨hD, hlen⟩ := hD
  have HD := Lib.hid hD
  clear hD
  have SH := Lib.hid (shown_any10 hT hB)
  have HT := Lib.hid hT
  clear hT
  go_enter Tryd.func3, Tryd.ntmps3
  go_wp2_with fail
  refine SH.out.mono ?_
  rintro e wa ⟨rfl, hb⟩
  have NW := Lib.hid (cs_new (HT.out.below hb hB) (Nat.lt_of_lt_of_le hB hb.size) hb)
  clear hb
  go_wp2_with fail
  refine NW.out.mono ?_
  rintro e wc ⟨p, g, rfl, hc, hb⟩
  obtain ⟨w1, hw1⟩ : ∃ w1, w1 = wc.alloc (.cells #[.int .i64 8, .int .i64 16, .int .i64 24] 3) := ⟨_, rfl⟩
  obtain ⟨hb0, hhb⟩ : ∃ h, h = wc.heap.size := ⟨_, rfl⟩
  have hbl1 : Below wc.heap.size wc w1 := by rw [hw1]; exact below_one wc _
  have bH : Blk w1 hb0 3 #[.int .i64 8, .int .i64 16, .int .i64 24] := by rw [hw1, hhb]; exact Blk.new _ _ _
  have C1 := Lib.hid (hc.below hbl1)
  have hgb := hc.aw.gb
  have hpb := hc.aw.ar.head.lt
  have hcs := hc.bl.size
  have s1 : w1.heap.size = wc.heap.size + 1 := by rw [hw1]; simp
  have MK : Hid (Calls Tryd.prog 11 #[.slice (some ⟨hb0, 0, none⟩) 3 3] w1 fun e w' => ∃ ob, e = .returned (xv hb0 ob 3) ∧ Xr w' ⟨w.heap.size, g⟩ hb0 ob 3 (fun _ => none) (fun _ => 0) (fun _ => []) ∧ Below w1.heap.size w1 w') :=
    Lib.hid (rmake_any ⟨by show w.heap.size ≤ _; omega, by show g < _; omega⟩ ⟨by show w.heap.size ≤ _; omega, by show hb0 ≠ g; omega⟩ (by omega) (fun i hi => by
      have hi3 : i = 0 ∨ i = 1 ∨ i = 2 := by omega
      rw [bH.cell i]
      rcases hi3 with rfl | rfl | rfl <;> rfl))
  have HW := Lib.hid hw1
  have HHB := Lib.hid hhb
  have SZ : Hid (w.heap.size ≤ w1.heap.size ∧ p < w1.heap.size ∧ g < w1.heap.size) := Lib.hid ⟨by omega, by omega, by omega⟩
  clear hb hc hbl1 bH hw1 hhb hgb hpb hcs s1
  go_wp2_with fail
  rw [← HHB.out, ← HW.out]
  refine MK.out.mono ?_
  rintro e w2 ⟨ob, rfl, hx, hbc⟩
  have PB0 : Hid (Pb w (w2.alloc (.cells #[.slice (some ⟨hb0, 0, none⟩) 3 3, .slice (some ⟨ob, 0, none⟩) 3 3] 29)) p g E0 (fun _ => 0) E0 hb0 ob 3 (fun _ => none) (fun _ => 0) w2.heap.size) := Lib.hid (by
    have h1 := (C1.out.below hbc).below (below_one w2 (.cells #[.slice (some ⟨hb0, 0, none⟩) 3 3, .slice (some ⟨ob, 0, none⟩) 3 3] 29))
    obtain ⟨z1, z2, z3⟩ := SZ.out
    have hs := hbc.size
    exact ⟨h1, hx.below (below_one _ _), Blk.new _ _ _, hx.off (Nat.le_refl _), by omega, by omega, by omega, hB⟩)
  clear hx hbc
  unfold xv
  go_wp2_with fail
  obtain ⟨xb, hxb⟩ : ∃ x, x = w2.heap.size := ⟨_, rfl⟩
  obtain ⟨w3, hw3⟩ : ∃ x, x = w2.alloc (.cells #[.slice (some ⟨hb0, 0, none⟩) 3 3, .slice (some ⟨ob, 0, none⟩) 3 3] 29) := ⟨_, rfl⟩
  rw [← hw3, ← hxb] at PB0
  rw [← hw3, ← hxb]
  clear hw3 hxb
  go_loopw [6] (fun v wr => ∃ (k : Nat) (L : Nat → List Nat) (f : Nat → Int) (ob cp : Nat) (A0 : Nat → Option Addr) (cc : Nat → Nat), k ≤ len ∧ k ≤ 80 ∧ v = .int .i64 k ∧ Hid (Pb w wr p g L f L hb0 ob cp A0 cc xb)) (fun v _ => 80 - (intOf v).toNat)
  case atStart => exact ⟨0, _, _, _, _, _, _, Nat.zero_le _, Nat.zero_le _, rfl, PB0⟩
  case round =>
    clear PB0
    generalize hb0 = hb at *
    obtain ⟨k, L, f, ob, cp, A0, cc, hk, hk2, rfl, PC⟩ := hrel
    by_cases hc1 : k < len ∧ k < 80
    · obtain ⟨g1, g2⟩ := hc1
      have e1 : decide ((k : Int) < len) = true := decide_eq_true (by omega)
      have e2 : decide ((k : Int) < 80) = true := decide_eq_true (by omega)
      obtain ⟨b, o, kd, h', x', rfl, hblt, q0, q1, q2, hh', hx'⟩ := HD.out k g1
      have DK : Hid (∀ w', Below w.heap.size w w' → D3 w' b o k kd h' x') := Lib.hid fun w' hl => d3_keep ⟨q0, q1, q2⟩ hblt hl
      clear q0 q1 q2
      obtain ⟨q0, q1, q2⟩ := DK.out _ PC.out.cs.bl
      obtain ⟨⟨m0, m1⟩, z0, z1⟩ := PC.out.two
      have CH := Lib.hid PC.out.cs.ch
      obtain ⟨h, hhe⟩ : ∃ h, h = hdN h' := ⟨_, rfl⟩
      obtain ⟨n, hne⟩ : ∃ n, n = ndN x' := ⟨_, rfl⟩
      have hh : Hid (h ∈ H3) := Lib.hid (hhe ▸ hdN_in h')
      have hn : Hid (N14 n) := Lib.hid (hne ▸ ndN_in x')
      obtain ⟨i, hi0, hhi0, _⟩ := h3_hd hh.out
      have hi := Lib.hid hi0
      have hhi := Lib.hid hhi0
      have HDh : Hid (∀ w, Calls Tryd.prog 12 #[.int .u8 (h' : Int)] w fun e w' => e = .returned (.int .i64 (h : Nat)) ∧ w = w') := Lib.hid fun w => by rw [hhe]; exact head_any h' hh' w
      have NDh : Hid (∀ w, Calls Tryd.prog 13 #[.int .u8 (x' : Int)] w fun e w' => e = .returned (.int .i64 (n : Nat)) ∧ w = w') := Lib.hid fun w => by rw [hne]; exact node_any x' hx' w
      clear hhe hne hi0 hhi0
      have hkd : kd = 0 ∨ kd = 1 ∨ kd = 2 ∨ kd = 3 ∨ (¬ kd = 0 ∧ ¬ kd = 1 ∧ ¬ kd = 2 ∧ ¬ kd = 3) := by omega
      rcases hkd with rfl | rfl | rfl | rfl | ⟨d0, d1, d2, d3⟩
      · by_cases ho : ow L n = 0
        · obtain ⟨M1, hM1⟩ : ∃ M, M = upL L h (pushL true n (L h)) := ⟨_, rfl⟩
          have hM : M1 = upL L h (pushL true n (L h)) := hM1
          have CO : Hid (∀ w' f', Pb w w' p g L f' L hb ob cp A0 cc xb → Calls Tryd.prog 14 #[.pointer (some ⟨p, 0, none⟩), .int .i64 h, .int .i64 n, .bool true] w' (Ct w w' p g M1 (.int .i64 0))) := Lib.hid fun w' f' b => by
            have := cs_push b.cs true hh.out hn.out
            unfold gP gPe at this
            rw [if_pos ho, if_pos ho, ← hM] at this
            exact this
          have RO : Hid (∀ w' f', Pb w w' p g M1 f' L hb ob cp A0 cc xb → Calls Tryd.prog 15 #[.agg #[.slice (some ⟨hb, 0, none⟩) 3 3, .slice (some ⟨ob, 0, none⟩) 3 cp], .int .i64 h, .int .i64 n, .bool true] w' (fun e w'' => ∃ ob' cp' A1 c1, e = .returned (.tuple #[.agg #[.slice (some ⟨hb, 0, none⟩) 3 3, .slice (some ⟨ob', 0, none⟩) 3 cp'], .int .i64 0]) ∧ Xr w'' ⟨w.heap.size, g⟩ hb ob' cp' (upN A0 i A1) (upN cc i c1) M1 ∧ Below w'.heap.size w' w'' ∧ w'.heap.size ≤ ob' ∧ ∀ a, A1 = some a → w'.heap.size ≤ a.block)) := Lib.hid fun w' f' b => by
            have := rpush_ok b.xr ⟨b.cs.bl.size, b.cs.aw.gb⟩ hi.out h hhi.out n true ho (by
              have := (CH.out.push hh.out hn.out (ow_none L n ho) true).len hh.out
              rw [upL_same, push_len] at this
              exact this)
            rw [← hM] at this
            exact this
          have HM := Lib.hid hM
          clear hM hM1 ho
          go_wp2_with (first
            | (go_at_call 12; (with_reducible refine (HDh.out _).mono ?_); rintro e wd ⟨rfl, rfl⟩)
            | (go_at_call 13; (with_reducible refine (NDh.out _).mono ?_); rintro e wd ⟨rfl, rfl⟩)
            | (go_at_call 14; (with_reducible refine (CO.out _ _ PC.out).mono ?_); rintro e wd ⟨rfl, f1, hc, hf⟩; have PC := Lib.hid (PC.out.chain hc hf); (try clear m0 m1 z0 z1); obtain ⟨⟨m0, m1⟩, z0, z1⟩ := PC.out.two; clear q0 q1 q2; obtain ⟨q0, q1, q2⟩ := DK.out _ hc.bl; clear hc hf))
          have PD := Lib.hid PC.out.drew
          have d0 := q0
          go_region_with (go_at_call 15; (with_reducible refine (RO.out _ _ PD.out).mono ?_); rintro e w5 ⟨ob', cp', A1, c1, rfl, hx, hbc, hob, hA1⟩; have P5 := Lib.hid (PD.out.below hbc); have XN := Lib.hid hx; have OFF : Hid (Xo hb ob' (upN A0 i A1) M1 xb) := Lib.hid (HM.out ▸ PD.out.off.up hi.out hhi.out PD.out.bx.lt hob (fun a ha _ => hA1 a ha)); (try clear m0 m1 z0 z1); obtain ⟨⟨m0, m1⟩, z0, z1⟩ := P5.out.two; replace hbc := Lib.hid hbc; clear hx hob hA1)
          all_goals
            clear m0 m1 z0 z1 q0 q1 q2 d0
            have PF := Lib.hid (P5.out.stored (M' := M1) XN.out OFF.out)
            obtain ⟨W5, hW5⟩ : ∃ W, W = (w5.setCell ⟨xb, 0, none⟩ (.slice (some ⟨hb, 0, none⟩) 3 3)).setCell ⟨xb, 1, none⟩ (.slice (some ⟨ob', 0, none⟩) 3 cp') := ⟨_, rfl⟩
            rw [← hW5] at PF
            rw [← hW5]
            clear hW5
            obtain ⟨⟨m0, m1⟩, z0, z1⟩ := PF.out.two
            have AL : Hid (Calls Tryd.prog 20 #[.pointer (some ⟨p, 0, none⟩), .agg #[.slice (some ⟨hb, 0, none⟩) 3 3, .slice (some ⟨ob', 0, none⟩) 3 cp']] W5 fun e w' => e = .returned (.bool true) ∧ Below W5.heap.size W5 w') := Lib.hid (alike_any PF.out.cs PF.out.xr)
            go_wp2_with (go_at_call 20; (with_reducible refine AL.out.mono ?_); rintro e w6 ⟨rfl, hbc⟩; have P6 := Lib.hid (PF.out.below hbc); clear hbc)
            go_roundw
            case rel => exact ⟨k + 1, M1, _, ob', cp', _, _, by omega, by omega, by go_num, P6⟩
            case measure => simp [intOf]; omega
        · obtain ⟨M1, hM1⟩ : ∃ M, M = L := ⟨_, rfl⟩
          have hM : M1 = L := hM1
          have CO : Hid (∀ w' f', Pb w w' p g L f' L hb ob cp A0 cc xb → Calls Tryd.prog 14 #[.pointer (some ⟨p, 0, none⟩), .int .i64 h, .int .i64 n, .bool true] w' (Ct w w' p g M1 (.int .i64 8))) := Lib.hid fun w' f' b => by
            have := cs_push b.cs true hh.out hn.out
            unfold gP gPe at this
            rw [if_neg ho, if_neg ho, ← hM] at this
            exact this
          have RO : Hid (∀ w' f', Pb w w' p g M1 f' L hb ob cp A0 cc xb → Calls Tryd.prog 15 #[.agg #[.slice (some ⟨hb, 0, none⟩) 3 3, .slice (some ⟨ob, 0, none⟩) 3 cp], .int .i64 h, .int .i64 n, .bool true] w' (fun e w'' => e = .returned (.tuple #[.agg #[.slice (some ⟨hb, 0, none⟩) 3 3, .slice (some ⟨ob, 0, none⟩) 3 cp], .int .i64 8]) ∧ Below w'.heap.size w' w'')) := Lib.hid fun w' f' b => by
            exact rpush_in b.xr h n true ho
          have HM := Lib.hid hM
          clear hM hM1 ho
          go_wp2_with (first
            | (go_at_call 12; (with_reducible refine (HDh.out _).mono ?_); rintro e wd ⟨rfl, rfl⟩)
            | (go_at_call 13; (with_reducible refine (NDh.out _).mono ?_); rintro e wd ⟨rfl, rfl⟩)
            | (go_at_call 14; (with_reducible refine (CO.out _ _ PC.out).mono ?_); rintro e wd ⟨rfl, f1, hc, hf⟩; have PC := Lib.hid (PC.out.chain hc hf); (try clear m0 m1 z0 z1); obtain ⟨⟨m0, m1⟩, z0, z1⟩ := PC.out.two; clear q0 q1 q2; obtain ⟨q0, q1, q2⟩ := DK.out _ hc.bl; clear hc hf))
          have PD := Lib.hid PC.out.drew
          have d0 := q0
          go_region_with (go_at_call 15; (with_reducible refine (RO.out _ _ PD.out).mono ?_); rintro e w5 ⟨rfl, hbc⟩; have P5 := Lib.hid (PD.out.below hbc); (try clear m0 m1 z0 z1); obtain ⟨⟨m0, m1⟩, z0, z1⟩ := P5.out.two; replace hbc := Lib.hid hbc)
          all_goals
            clear m0 m1 z0 z1 q0 q1 q2 d0
            have PF := Lib.hid (P5.out.stored (M' := M1) (HM.out ▸ P5.out.xr) (HM.out ▸ P5.out.off))
            obtain ⟨W5, hW5⟩ : ∃ W, W = (w5.setCell ⟨xb, 0, none⟩ (.slice (some ⟨hb, 0, none⟩) 3 3)).setCell ⟨xb, 1, none⟩ (.slice (some ⟨ob, 0, none⟩) 3 cp) := ⟨_, rfl⟩
            rw [← hW5] at PF
            rw [← hW5]
            clear hW5
            obtain ⟨⟨m0, m1⟩, z0, z1⟩ := PF.out.two
            have AL : Hid (Calls Tryd.prog 20 #[.pointer (some ⟨p, 0, none⟩), .agg #[.slice (some ⟨hb, 0, none⟩) 3 3, .slice (some ⟨ob, 0, none⟩) 3 cp]] W5 fun e w' => e = .returned (.bool true) ∧ Below W5.heap.size W5 w') := Lib.hid (alike_any PF.out.cs PF.out.xr)
            go_wp2_with (go_at_call 20; (with_reducible refine AL.out.mono ?_); rintro e w6 ⟨rfl, hbc⟩; have P6 := Lib.hid (PF.out.below hbc); clear hbc)
            go_roundw
            case rel => exact ⟨k + 1, M1, _, ob, cp, _, _, by omega, by omega, by go_num, P6⟩
            case measure => simp [intOf]; omega
      · by_cases ho : ow L n = 0
        · obtain ⟨M1, hM1⟩ : ∃ M, M = upL L h (pushL false n (L h)) := ⟨_, rfl⟩
          have hM : M1 = upL L h (pushL false n (L h)) := hM1
          have CO : Hid (∀ w' f', Pb w w' p g L f' L hb ob cp A0 cc xb → Calls Tryd.prog 14 #[.pointer (some ⟨p, 0, none⟩), .int .i64 h, .int .i64 n, .bool false] w' (Ct w w' p g M1 (.int .i64 0))) := Lib.hid fun w' f' b => by
            have := cs_push b.cs false hh.out hn.out
            unfold gP gPe at this
            rw [if_pos ho, if_pos ho, ← hM] at this
            exact this
          have RO : Hid (∀ w' f', Pb w w' p g M1 f' L hb ob cp A0 cc xb → Calls Tryd.prog 15 #[.agg #[.slice (some ⟨hb, 0, none⟩) 3 3, .slice (some ⟨ob, 0, none⟩) 3 cp], .int .i64 h, .int .i64 n, .bool false] w' (fun e w'' => ∃ ob' cp' A1 c1, e = .returned (.tuple #[.agg #[.slice (some ⟨hb, 0, none⟩) 3 3, .slice (some ⟨ob', 0, none⟩) 3 cp'], .int .i64 0]) ∧ Xr w'' ⟨w.heap.size, g⟩ hb ob' cp' (upN A0 i A1) (upN cc i c1) M1 ∧ Below w'.heap.size w' w'' ∧ w'.heap.size ≤ ob' ∧ ∀ a, A1 = some a → w'.heap.size ≤ a.block)) := Lib.hid fun w' f' b => by
            have := rpush_ok b.xr ⟨b.cs.bl.size, b.cs.aw.gb⟩ hi.out h hhi.out n false ho (by
              have := (CH.out.push hh.out hn.out (ow_none L n ho) false).len hh.out
              rw [upL_same, push_len] at this
              exact this)
            rw [← hM] at this
            exact this
          have HM := Lib.hid hM
          clear hM hM1 ho
          go_wp2_with (first
            | (go_at_call 12; (with_reducible refine (HDh.out _).mono ?_); rintro e wd ⟨rfl, rfl⟩)
            | (go_at_call 13; (with_reducible refine (NDh.out _).mono ?_); rintro e wd ⟨rfl, rfl⟩)
            | (go_at_call 14; (with_reducible refine (CO.out _ _ PC.out).mono ?_); rintro e wd ⟨rfl, f1, hc, hf⟩; have PC := Lib.hid (PC.out.chain hc hf); (try clear m0 m1 z0 z1); obtain ⟨⟨m0, m1⟩, z0, z1⟩ := PC.out.two; clear q0 q1 q2; obtain ⟨q0, q1, q2⟩ := DK.out _ hc.bl; clear hc hf))
          have PD := Lib.hid PC.out.drew
          have d0 := q0
          go_region_with (go_at_call 15; (with_reducible refine (RO.out _ _ PD.out).mono ?_); rintro e w5 ⟨ob', cp', A1, c1, rfl, hx, hbc, hob, hA1⟩; have P5 := Lib.hid (PD.out.below hbc); have XN := Lib.hid hx; have OFF : Hid (Xo hb ob' (upN A0 i A1) M1 xb) := Lib.hid (HM.out ▸ PD.out.off.up hi.out hhi.out PD.out.bx.lt hob (fun a ha _ => hA1 a ha)); (try clear m0 m1 z0 z1); obtain ⟨⟨m0, m1⟩, z0, z1⟩ := P5.out.two; replace hbc := Lib.hid hbc; clear hx hob hA1)
          all_goals
            clear m0 m1 z0 z1 q0 q1 q2 d0
            have PF := Lib.hid (P5.out.stored (M' := M1) XN.out OFF.out)
            obtain ⟨W5, hW5⟩ : ∃ W, W = (w5.setCell ⟨xb, 0, none⟩ (.slice (some ⟨hb, 0, none⟩) 3 3)).setCell ⟨xb, 1, none⟩ (.slice (some ⟨ob', 0, none⟩) 3 cp') := ⟨_, rfl⟩
            rw [← hW5] at PF
            rw [← hW5]
            clear hW5
            obtain ⟨⟨m0, m1⟩, z0, z1⟩ := PF.out.two
            have AL : Hid (Calls Tryd.prog 20 #[.pointer (some ⟨p, 0, none⟩), .agg #[.slice (some ⟨hb, 0, none⟩) 3 3, .slice (some ⟨ob', 0, none⟩) 3 cp']] W5 fun e w' => e = .returned (.bool true) ∧ Below W5.heap.size W5 w') := Lib.hid (alike_any PF.out.cs PF.out.xr)
            go_wp2_with (go_at_call 20; (with_reducible refine AL.out.mono ?_); rintro e w6 ⟨rfl, hbc⟩; have P6 := Lib.hid (PF.out.below hbc); clear hbc)
            go_roundw
            case rel => exact ⟨k + 1, M1, _, ob', cp', _, _, by omega, by omega, by go_num, P6⟩
            case measure => simp [intOf]; omega
        · obtain ⟨M1, hM1⟩ : ∃ M, M = L := ⟨_, rfl⟩
          have hM : M1 = L := hM1
          have CO : Hid (∀ w' f', Pb w w' p g L f' L hb ob cp A0 cc xb → Calls Tryd.prog 14 #[.pointer (some ⟨p, 0, none⟩), .int .i64 h, .int .i64 n, .bool false] w' (Ct w w' p g M1 (.int .i64 8))) := Lib.hid fun w' f' b => by
            have := cs_push b.cs false hh.out hn.out
            unfold gP gPe at this
            rw [if_neg ho, if_neg ho, ← hM] at this
            exact this
          have RO : Hid (∀ w' f', Pb w w' p g M1 f' L hb ob cp A0 cc xb → Calls Tryd.prog 15 #[.agg #[.slice (some ⟨hb, 0, none⟩) 3 3, .slice (some ⟨ob, 0, none⟩) 3 cp], .int .i64 h, .int .i64 n, .bool false] w' (fun e w'' => e = .returned (.tuple #[.agg #[.slice (some ⟨hb, 0, none⟩) 3 3, .slice (some ⟨ob, 0, none⟩) 3 cp], .int .i64 8]) ∧ Below w'.heap.size w' w'')) := Lib.hid fun w' f' b => by
            exact rpush_in b.xr h n false ho
          have HM := Lib.hid hM
          clear hM hM1 ho
          go_wp2_with (first
            | (go_at_call 12; (with_reducible refine (HDh.out _).mono ?_); rintro e wd ⟨rfl, rfl⟩)
            | (go_at_call 13; (with_reducible refine (NDh.out _).mono ?_); rintro e wd ⟨rfl, rfl⟩)
            | (go_at_call 14; (with_reducible refine (CO.out _ _ PC.out).mono ?_); rintro e wd ⟨rfl, f1, hc, hf⟩; have PC := Lib.hid (PC.out.chain hc hf); (try clear m0 m1 z0 z1); obtain ⟨⟨m0, m1⟩, z0, z1⟩ := PC.out.two; clear q0 q1 q2; obtain ⟨q0, q1, q2⟩ := DK.out _ hc.bl; clear hc hf))
          have PD := Lib.hid PC.out.drew
          have d0 := q0
          go_region_with (go_at_call 15; (with_reducible refine (RO.out _ _ PD.out).mono ?_); rintro e w5 ⟨rfl, hbc⟩; have P5 := Lib.hid (PD.out.below hbc); (try clear m0 m1 z0 z1); obtain ⟨⟨m0, m1⟩, z0, z1⟩ := P5.out.two; replace hbc := Lib.hid hbc)
          all_goals
            clear m0 m1 z0 z1 q0 q1 q2 d0
            have PF := Lib.hid (P5.out.stored (M' := M1) (HM.out ▸ P5.out.xr) (HM.out ▸ P5.out.off))
            obtain ⟨W5, hW5⟩ : ∃ W, W = (w5.setCell ⟨xb, 0, none⟩ (.slice (some ⟨hb, 0, none⟩) 3 3)).setCell ⟨xb, 1, none⟩ (.slice (some ⟨ob, 0, none⟩) 3 cp) := ⟨_, rfl⟩
            rw [← hW5] at PF
            rw [← hW5]
            clear hW5
            obtain ⟨⟨m0, m1⟩, z0, z1⟩ := PF.out.two
            have AL : Hid (Calls Tryd.prog 20 #[.pointer (some ⟨p, 0, none⟩), .agg #[.slice (some ⟨hb, 0, none⟩) 3 3, .slice (some ⟨ob, 0, none⟩) 3 cp]] W5 fun e w' => e = .returned (.bool true) ∧ Below W5.heap.size W5 w') := Lib.hid (alike_any PF.out.cs PF.out.xr)
            go_wp2_with (go_at_call 20; (with_reducible refine AL.out.mono ?_); rintro e w6 ⟨rfl, hbc⟩; have P6 := Lib.hid (PF.out.below hbc); clear hbc)
            go_roundw
            case rel => exact ⟨k + 1, M1, _, ob, cp, _, _, by omega, by omega, by go_num, P6⟩
            case measure => simp [intOf]; omega
      · by_cases ho : en L h true = 0
        · obtain ⟨M1, hM1⟩ : ∃ M, M = L := ⟨_, rfl⟩
          have hM : M1 = L := hM1
          have CO : Hid (∀ w' f', Pb w w' p g L f' L hb ob cp A0 cc xb → Calls Tryd.prog 16 #[.pointer (some ⟨p, 0, none⟩), .int .i64 h, .bool true] w' (Ct w w' p g M1 (.tuple #[.int .i64 0, .int .i64 6]))) := Lib.hid fun w' f' b => by
            have := cs_pop b.cs true hh.out
            unfold gO gOe at this
            rw [if_pos ho, if_pos ho, ho, ← hM] at this
            exact this
          have RO : Hid (∀ w' f', Pb w w' p g M1 f' L hb ob cp A0 cc xb → Calls Tryd.prog 17 #[.agg #[.slice (some ⟨hb, 0, none⟩) 3 3, .slice (some ⟨ob, 0, none⟩) 3 cp], .int .i64 h, .bool true] w' (fun e w'' => e = .returned (.tuple #[.agg #[.slice (some ⟨hb, 0, none⟩) 3 3, .slice (some ⟨ob, 0, none⟩) 3 cp], .int .i64 0, .int .i64 6]) ∧ Below w'.heap.size w' w'')) := Lib.hid fun w' f' b => by
            exact rpop_none b.xr h hh.out true ho
          have HM := Lib.hid hM
          clear hM hM1 ho
          go_wp2_with (first
            | (go_at_call 12; (with_reducible refine (HDh.out _).mono ?_); rintro e wd ⟨rfl, rfl⟩)
            | (go_at_call 13; (with_reducible refine (NDh.out _).mono ?_); rintro e wd ⟨rfl, rfl⟩)
            | (go_at_call 16; (with_reducible refine (CO.out _ _ PC.out).mono ?_); rintro e wd ⟨rfl, f1, hc, hf⟩; have PC := Lib.hid (PC.out.chain hc hf); (try clear m0 m1 z0 z1); obtain ⟨⟨m0, m1⟩, z0, z1⟩ := PC.out.two; clear q0 q1 q2; obtain ⟨q0, q1, q2⟩ := DK.out _ hc.bl; clear hc hf))
          have PD := Lib.hid PC.out.drew
          have d0 := q0
          go_region_with (go_at_call 17; (with_reducible refine (RO.out _ _ PD.out).mono ?_); rintro e w5 ⟨rfl, hbc⟩; have P5 := Lib.hid (PD.out.below hbc); (try clear m0 m1 z0 z1); obtain ⟨⟨m0, m1⟩, z0, z1⟩ := P5.out.two; replace hbc := Lib.hid hbc)
          all_goals
            clear m0 m1 z0 z1 q0 q1 q2 d0
            have PF := Lib.hid (P5.out.stored (M' := M1) (HM.out ▸ P5.out.xr) (HM.out ▸ P5.out.off))
            obtain ⟨W5, hW5⟩ : ∃ W, W = (w5.setCell ⟨xb, 0, none⟩ (.slice (some ⟨hb, 0, none⟩) 3 3)).setCell ⟨xb, 1, none⟩ (.slice (some ⟨ob, 0, none⟩) 3 cp) := ⟨_, rfl⟩
            rw [← hW5] at PF
            rw [← hW5]
            clear hW5
            obtain ⟨⟨m0, m1⟩, z0, z1⟩ := PF.out.two
            have AL : Hid (Calls Tryd.prog 20 #[.pointer (some ⟨p, 0, none⟩), .agg #[.slice (some ⟨hb, 0, none⟩) 3 3, .slice (some ⟨ob, 0, none⟩) 3 cp]] W5 fun e w' => e = .returned (.bool true) ∧ Below W5.heap.size W5 w') := Lib.hid (alike_any PF.out.cs PF.out.xr)
            go_wp2_with (go_at_call 20; (with_reducible refine AL.out.mono ?_); rintro e w6 ⟨rfl, hbc⟩; have P6 := Lib.hid (PF.out.below hbc); clear hbc)
            go_roundw
            case rel => exact ⟨k + 1, M1, _, ob, cp, _, _, by omega, by omega, by go_num, P6⟩
            case measure => simp [intOf]; omega
        · obtain ⟨M1, hM1⟩ : ∃ M, M = upL L h ((L h).erase (en L h true)) := ⟨_, rfl⟩
          obtain ⟨y, hy⟩ : ∃ y, y = en L h true := ⟨_, rfl⟩
          have hy0 : y ≠ 0 := by rw [hy]; exact ho
          have hM : M1 = upL L h ((L h).erase y) := by rw [hy]; exact hM1
          have CO : Hid (∀ w' f', Pb w w' p g L f' L hb ob cp A0 cc xb → Calls Tryd.prog 16 #[.pointer (some ⟨p, 0, none⟩), .int .i64 h, .bool true] w' (Ct w w' p g M1 (.tuple #[.int .i64 (y : Nat), .int .i64 0]))) := Lib.hid fun w' f' b => by
            have := cs_pop b.cs true hh.out
            unfold gO gOe at this
            rw [if_neg ho, if_neg ho, ← hy, ← hM] at this
            exact this
          have RO : Hid (∀ w' f', Pb w w' p g M1 f' L hb ob cp A0 cc xb → Calls Tryd.prog 17 #[.agg #[.slice (some ⟨hb, 0, none⟩) 3 3, .slice (some ⟨ob, 0, none⟩) 3 cp], .int .i64 h, .bool true] w' (fun e w'' => ∃ ob' cp' A1 c1, e = .returned (.tuple #[.agg #[.slice (some ⟨hb, 0, none⟩) 3 3, .slice (some ⟨ob', 0, none⟩) 3 cp'], .int .i64 (y : Nat), .int .i64 0]) ∧ Xr w'' ⟨w.heap.size, g⟩ hb ob' cp' (upN A0 i A1) (upN cc i c1) M1 ∧ Below w'.heap.size w' w'' ∧ w'.heap.size ≤ ob' ∧ ∀ a, A1 = some a → w'.heap.size ≤ a.block)) := Lib.hid fun w' f' b => by
            have := rpop_ok b.xr ⟨b.cs.bl.size, b.cs.aw.gb⟩ hi.out h hhi.out true y hy.symm hy0
            rw [← hM] at this
            exact this
          have HM := Lib.hid hM
          clear hM hM1 ho hy hy0
          go_wp2_with (first
            | (go_at_call 12; (with_reducible refine (HDh.out _).mono ?_); rintro e wd ⟨rfl, rfl⟩)
            | (go_at_call 13; (with_reducible refine (NDh.out _).mono ?_); rintro e wd ⟨rfl, rfl⟩)
            | (go_at_call 16; (with_reducible refine (CO.out _ _ PC.out).mono ?_); rintro e wd ⟨rfl, f1, hc, hf⟩; have PC := Lib.hid (PC.out.chain hc hf); (try clear m0 m1 z0 z1); obtain ⟨⟨m0, m1⟩, z0, z1⟩ := PC.out.two; clear q0 q1 q2; obtain ⟨q0, q1, q2⟩ := DK.out _ hc.bl; clear hc hf))
          have PD := Lib.hid PC.out.drew
          have d0 := q0
          go_region_with (go_at_call 17; (with_reducible refine (RO.out _ _ PD.out).mono ?_); rintro e w5 ⟨ob', cp', A1, c1, rfl, hx, hbc, hob, hA1⟩; have P5 := Lib.hid (PD.out.below hbc); have XN := Lib.hid hx; have OFF : Hid (Xo hb ob' (upN A0 i A1) M1 xb) := Lib.hid (HM.out ▸ PD.out.off.up hi.out hhi.out PD.out.bx.lt hob (fun a ha _ => hA1 a ha)); (try clear m0 m1 z0 z1); obtain ⟨⟨m0, m1⟩, z0, z1⟩ := P5.out.two; replace hbc := Lib.hid hbc; clear hx hob hA1)
          all_goals
            clear m0 m1 z0 z1 q0 q1 q2 d0
            have PF := Lib.hid (P5.out.stored (M' := M1) XN.out OFF.out)
            obtain ⟨W5, hW5⟩ : ∃ W, W = (w5.setCell ⟨xb, 0, none⟩ (.slice (some ⟨hb, 0, none⟩) 3 3)).setCell ⟨xb, 1, none⟩ (.slice (some ⟨ob', 0, none⟩) 3 cp') := ⟨_, rfl⟩
            rw [← hW5] at PF
            rw [← hW5]
            clear hW5
            obtain ⟨⟨m0, m1⟩, z0, z1⟩ := PF.out.two
            have AL : Hid (Calls Tryd.prog 20 #[.pointer (some ⟨p, 0, none⟩), .agg #[.slice (some ⟨hb, 0, none⟩) 3 3, .slice (some ⟨ob', 0, none⟩) 3 cp']] W5 fun e w' => e = .returned (.bool true) ∧ Below W5.heap.size W5 w') := Lib.hid (alike_any PF.out.cs PF.out.xr)
            go_wp2_with (go_at_call 20; (with_reducible refine AL.out.mono ?_); rintro e w6 ⟨rfl, hbc⟩; have P6 := Lib.hid (PF.out.below hbc); clear hbc)
            go_roundw
            case rel => exact ⟨k + 1, M1, _, ob', cp', _, _, by omega, by omega, by go_num, P6⟩
            case measure => simp [intOf]; omega
      · by_cases ho : en L h false = 0
        · obtain ⟨M1, hM1⟩ : ∃ M, M = L := ⟨_, rfl⟩
          have hM : M1 = L := hM1
          have CO : Hid (∀ w' f', Pb w w' p g L f' L hb ob cp A0 cc xb → Calls Tryd.prog 16 #[.pointer (some ⟨p, 0, none⟩), .int .i64 h, .bool false] w' (Ct w w' p g M1 (.tuple #[.int .i64 0, .int .i64 6]))) := Lib.hid fun w' f' b => by
            have := cs_pop b.cs false hh.out
            unfold gO gOe at this
            rw [if_pos ho, if_pos ho, ho, ← hM] at this
            exact this
          have RO : Hid (∀ w' f', Pb w w' p g M1 f' L hb ob cp A0 cc xb → Calls Tryd.prog 17 #[.agg #[.slice (some ⟨hb, 0, none⟩) 3 3, .slice (some ⟨ob, 0, none⟩) 3 cp], .int .i64 h, .bool false] w' (fun e w'' => e = .returned (.tuple #[.agg #[.slice (some ⟨hb, 0, none⟩) 3 3, .slice (some ⟨ob, 0, none⟩) 3 cp], .int .i64 0, .int .i64 6]) ∧ Below w'.heap.size w' w'')) := Lib.hid fun w' f' b => by
            exact rpop_none b.xr h hh.out false ho
          have HM := Lib.hid hM
          clear hM hM1 ho
          go_wp2_with (first
            | (go_at_call 12; (with_reducible refine (HDh.out _).mono ?_); rintro e wd ⟨rfl, rfl⟩)
            | (go_at_call 13; (with_reducible refine (NDh.out _).mono ?_); rintro e wd ⟨rfl, rfl⟩)
            | (go_at_call 16; (with_reducible refine (CO.out _ _ PC.out).mono ?_); rintro e wd ⟨rfl, f1, hc, hf⟩; have PC := Lib.hid (PC.out.chain hc hf); (try clear m0 m1 z0 z1); obtain ⟨⟨m0, m1⟩, z0, z1⟩ := PC.out.two; clear q0 q1 q2; obtain ⟨q0, q1, q2⟩ := DK.out _ hc.bl; clear hc hf))
          have PD := Lib.hid PC.out.drew
          have d0 := q0
          go_region_with (go_at_call 17; (with_reducible refine (RO.out _ _ PD.out).mono ?_); rintro e w5 ⟨rfl, hbc⟩; have P5 := Lib.hid (PD.out.below hbc); (try clear m0 m1 z0 z1); obtain ⟨⟨m0, m1⟩, z0, z1⟩ := P5.out.two; replace hbc := Lib.hid hbc)
          all_goals
            clear m0 m1 z0 z1 q0 q1 q2 d0
            have PF := Lib.hid (P5.out.stored (M' := M1) (HM.out ▸ P5.out.xr) (HM.out ▸ P5.out.off))
            obtain ⟨W5, hW5⟩ : ∃ W, W = (w5.setCell ⟨xb, 0, none⟩ (.slice (some ⟨hb, 0, none⟩) 3 3)).setCell ⟨xb, 1, none⟩ (.slice (some ⟨ob, 0, none⟩) 3 cp) := ⟨_, rfl⟩
            rw [← hW5] at PF
            rw [← hW5]
            clear hW5
            obtain ⟨⟨m0, m1⟩, z0, z1⟩ := PF.out.two
            have AL : Hid (Calls Tryd.prog 20 #[.pointer (some ⟨p, 0, none⟩), .agg #[.slice (some ⟨hb, 0, none⟩) 3 3, .slice (some ⟨ob, 0, none⟩) 3 cp]] W5 fun e w' => e = .returned (.bool true) ∧ Below W5.heap.size W5 w') := Lib.hid (alike_any PF.out.cs PF.out.xr)
            go_wp2_with (go_at_call 20; (with_reducible refine AL.out.mono ?_); rintro e w6 ⟨rfl, hbc⟩; have P6 := Lib.hid (PF.out.below hbc); clear hbc)
            go_roundw
            case rel => exact ⟨k + 1, M1, _, ob, cp, _, _, by omega, by omega, by go_num, P6⟩
            case measure => simp [intOf]; omega
        · obtain ⟨M1, hM1⟩ : ∃ M, M = upL L h ((L h).erase (en L h false)) := ⟨_, rfl⟩
          obtain ⟨y, hy⟩ : ∃ y, y = en L h false := ⟨_, rfl⟩
          have hy0 : y ≠ 0 := by rw [hy]; exact ho
          have hM : M1 = upL L h ((L h).erase y) := by rw [hy]; exact hM1
          have CO : Hid (∀ w' f', Pb w w' p g L f' L hb ob cp A0 cc xb → Calls Tryd.prog 16 #[.pointer (some ⟨p, 0, none⟩), .int .i64 h, .bool false] w' (Ct w w' p g M1 (.tuple #[.int .i64 (y : Nat), .int .i64 0]))) := Lib.hid fun w' f' b => by
            have := cs_pop b.cs false hh.out
            unfold gO gOe at this
            rw [if_neg ho, if_neg ho, ← hy, ← hM] at this
            exact this
          have RO : Hid (∀ w' f', Pb w w' p g M1 f' L hb ob cp A0 cc xb → Calls Tryd.prog 17 #[.agg #[.slice (some ⟨hb, 0, none⟩) 3 3, .slice (some ⟨ob, 0, none⟩) 3 cp], .int .i64 h, .bool false] w' (fun e w'' => ∃ ob' cp' A1 c1, e = .returned (.tuple #[.agg #[.slice (some ⟨hb, 0, none⟩) 3 3, .slice (some ⟨ob', 0, none⟩) 3 cp'], .int .i64 (y : Nat), .int .i64 0]) ∧ Xr w'' ⟨w.heap.size, g⟩ hb ob' cp' (upN A0 i A1) (upN cc i c1) M1 ∧ Below w'.heap.size w' w'' ∧ w'.heap.size ≤ ob' ∧ ∀ a, A1 = some a → w'.heap.size ≤ a.block)) := Lib.hid fun w' f' b => by
            have := rpop_ok b.xr ⟨b.cs.bl.size, b.cs.aw.gb⟩ hi.out h hhi.out false y hy.symm hy0
            rw [← hM] at this
            exact this
          have HM := Lib.hid hM
          clear hM hM1 ho hy hy0
          go_wp2_with (first
            | (go_at_call 12; (with_reducible refine (HDh.out _).mono ?_); rintro e wd ⟨rfl, rfl⟩)
            | (go_at_call 13; (with_reducible refine (NDh.out _).mono ?_); rintro e wd ⟨rfl, rfl⟩)
            | (go_at_call 16; (with_reducible refine (CO.out _ _ PC.out).mono ?_); rintro e wd ⟨rfl, f1, hc, hf⟩; have PC := Lib.hid (PC.out.chain hc hf); (try clear m0 m1 z0 z1); obtain ⟨⟨m0, m1⟩, z0, z1⟩ := PC.out.two; clear q0 q1 q2; obtain ⟨q0, q1, q2⟩ := DK.out _ hc.bl; clear hc hf))
          have PD := Lib.hid PC.out.drew
          have d0 := q0
          go_region_with (go_at_call 17; (with_reducible refine (RO.out _ _ PD.out).mono ?_); rintro e w5 ⟨ob', cp', A1, c1, rfl, hx, hbc, hob, hA1⟩; have P5 := Lib.hid (PD.out.below hbc); have XN := Lib.hid hx; have OFF : Hid (Xo hb ob' (upN A0 i A1) M1 xb) := Lib.hid (HM.out ▸ PD.out.off.up hi.out hhi.out PD.out.bx.lt hob (fun a ha _ => hA1 a ha)); (try clear m0 m1 z0 z1); obtain ⟨⟨m0, m1⟩, z0, z1⟩ := P5.out.two; replace hbc := Lib.hid hbc; clear hx hob hA1)
          all_goals
            clear m0 m1 z0 z1 q0 q1 q2 d0
            have PF := Lib.hid (P5.out.stored (M' := M1) XN.out OFF.out)
            obtain ⟨W5, hW5⟩ : ∃ W, W = (w5.setCell ⟨xb, 0, none⟩ (.slice (some ⟨hb, 0, none⟩) 3 3)).setCell ⟨xb, 1, none⟩ (.slice (some ⟨ob', 0, none⟩) 3 cp') := ⟨_, rfl⟩
            rw [← hW5] at PF
            rw [← hW5]
            clear hW5
            obtain ⟨⟨m0, m1⟩, z0, z1⟩ := PF.out.two
            have AL : Hid (Calls Tryd.prog 20 #[.pointer (some ⟨p, 0, none⟩), .agg #[.slice (some ⟨hb, 0, none⟩) 3 3, .slice (some ⟨ob', 0, none⟩) 3 cp']] W5 fun e w' => e = .returned (.bool true) ∧ Below W5.heap.size W5 w') := Lib.hid (alike_any PF.out.cs PF.out.xr)
            go_wp2_with (go_at_call 20; (with_reducible refine AL.out.mono ?_); rintro e w6 ⟨rfl, hbc⟩; have P6 := Lib.hid (PF.out.below hbc); clear hbc)
            go_roundw
            case rel => exact ⟨k + 1, M1, _, ob', cp', _, _, by omega, by omega, by go_num, P6⟩
            case measure => simp [intOf]; omega
      · by_cases ho : n ∈ L h
        · obtain ⟨M1, hM1⟩ : ∃ M, M = upL L h ((L h).erase n) := ⟨_, rfl⟩
          have hM : M1 = upL L h ((L h).erase n) := hM1
          have CO : Hid (∀ w' f', Pb w w' p g L f' L hb ob cp A0 cc xb → Calls Tryd.prog 18 #[.pointer (some ⟨p, 0, none⟩), .int .i64 h, .int .i64 n] w' (Ct w w' p g M1 (.int .i64 0))) := Lib.hid fun w' f' b => by
            have := cs_remove b.cs hh.out hn.out
            unfold gR gRe at this
            rw [if_pos ho, if_pos ho, ← hM] at this
            exact this
          have RO : Hid (∀ w' f', Pb w w' p g M1 f' L hb ob cp A0 cc xb → Calls Tryd.prog 19 #[.agg #[.slice (some ⟨hb, 0, none⟩) 3 3, .slice (some ⟨ob, 0, none⟩) 3 cp], .int .i64 h, .int .i64 n] w' (fun e w'' => ∃ ob' cp' A1 c1, e = .returned (.tuple #[.agg #[.slice (some ⟨hb, 0, none⟩) 3 3, .slice (some ⟨ob', 0, none⟩) 3 cp'], .int .i64 0]) ∧ Xr w'' ⟨w.heap.size, g⟩ hb ob' cp' (upN A0 i A1) (upN cc i c1) M1 ∧ Below w'.heap.size w' w'' ∧ w'.heap.size ≤ ob' ∧ ∀ a, A1 = some a → w'.heap.size ≤ a.block)) := Lib.hid fun w' f' b => by
            have := rremove_ok b.xr ⟨b.cs.bl.size, b.cs.aw.gb⟩ hi.out h hhi.out n ho
            rw [← hM] at this
            exact this
          have HM := Lib.hid hM
          clear hM hM1 ho
          go_wp2_with (first
            | (go_at_call 12; (with_reducible refine (HDh.out _).mono ?_); rintro e wd ⟨rfl, rfl⟩)
            | (go_at_call 13; (with_reducible refine (NDh.out _).mono ?_); rintro e wd ⟨rfl, rfl⟩)
            | (go_at_call 18; (with_reducible refine (CO.out _ _ PC.out).mono ?_); rintro e wd ⟨rfl, f1, hc, hf⟩; have PC := Lib.hid (PC.out.chain hc hf); (try clear m0 m1 z0 z1); obtain ⟨⟨m0, m1⟩, z0, z1⟩ := PC.out.two; clear q0 q1 q2; obtain ⟨q0, q1, q2⟩ := DK.out _ hc.bl; clear hc hf)
            | (go_at_call 19; (with_reducible refine (RO.out _ _ PC.out).mono ?_); rintro e w5 ⟨ob', cp', A1, c1, rfl, hx, hbc, hob, hA1⟩; have P5 := Lib.hid (PC.out.below hbc); have XN := Lib.hid hx; have OFF : Hid (Xo hb ob' (upN A0 i A1) M1 xb) := Lib.hid (HM.out ▸ PC.out.off.up hi.out hhi.out PC.out.bx.lt hob (fun a ha _ => hA1 a ha)); (try clear m0 m1 z0 z1); obtain ⟨⟨m0, m1⟩, z0, z1⟩ := P5.out.two; replace hbc := Lib.hid hbc; clear hx hob hA1))
          clear m0 m1 z0 z1 q0 q1 q2
          have PF := Lib.hid (P5.out.stored (M' := M1) XN.out OFF.out)
          obtain ⟨W5, hW5⟩ : ∃ W, W = (w5.setCell ⟨xb, 0, none⟩ (.slice (some ⟨hb, 0, none⟩) 3 3)).setCell ⟨xb, 1, none⟩ (.slice (some ⟨ob', 0, none⟩) 3 cp') := ⟨_, rfl⟩
          rw [← hW5] at PF
          rw [← hW5]
          clear hW5
          obtain ⟨⟨m0, m1⟩, z0, z1⟩ := PF.out.two
          have AL : Hid (Calls Tryd.prog 20 #[.pointer (some ⟨p, 0, none⟩), .agg #[.slice (some ⟨hb, 0, none⟩) 3 3, .slice (some ⟨ob', 0, none⟩) 3 cp']] W5 fun e w' => e = .returned (.bool true) ∧ Below W5.heap.size W5 w') := Lib.hid (alike_any PF.out.cs PF.out.xr)
          go_wp2_with (go_at_call 20; (with_reducible refine AL.out.mono ?_); rintro e w6 ⟨rfl, hbc⟩; have P6 := Lib.hid (PF.out.below hbc); clear hbc)
          go_roundw
          case rel => exact ⟨k + 1, M1, _, ob', cp', _, _, by omega, by omega, by go_num, P6⟩
          case measure => simp [intOf]; omega
        · obtain ⟨M1, hM1⟩ : ∃ M, M = L := ⟨_, rfl⟩
          have hM : M1 = L := hM1
          have CO : Hid (∀ w' f', Pb w w' p g L f' L hb ob cp A0 cc xb → Calls Tryd.prog 18 #[.pointer (some ⟨p, 0, none⟩), .int .i64 h, .int .i64 n] w' (Ct w w' p g M1 (.int .i64 8))) := Lib.hid fun w' f' b => by
            have := cs_remove b.cs hh.out hn.out
            unfold gR gRe at this
            rw [if_neg ho, if_neg ho, ← hM] at this
            exact this
          have RO : Hid (∀ w' f', Pb w w' p g M1 f' L hb ob cp A0 cc xb → Calls Tryd.prog 19 #[.agg #[.slice (some ⟨hb, 0, none⟩) 3 3, .slice (some ⟨ob, 0, none⟩) 3 cp], .int .i64 h, .int .i64 n] w' (fun e w'' => e = .returned (.tuple #[.agg #[.slice (some ⟨hb, 0, none⟩) 3 3, .slice (some ⟨ob, 0, none⟩) 3 cp], .int .i64 8]) ∧ Below w'.heap.size w' w'')) := Lib.hid fun w' f' b => by
            exact rremove_not b.xr ⟨b.cs.bl.size, b.cs.aw.gb⟩ hi.out h hhi.out n ho
          have HM := Lib.hid hM
          clear hM hM1 ho
          go_wp2_with (first
            | (go_at_call 12; (with_reducible refine (HDh.out _).mono ?_); rintro e wd ⟨rfl, rfl⟩)
            | (go_at_call 13; (with_reducible refine (NDh.out _).mono ?_); rintro e wd ⟨rfl, rfl⟩)
            | (go_at_call 18; (with_reducible refine (CO.out _ _ PC.out).mono ?_); rintro e wd ⟨rfl, f1, hc, hf⟩; have PC := Lib.hid (PC.out.chain hc hf); (try clear m0 m1 z0 z1); obtain ⟨⟨m0, m1⟩, z0, z1⟩ := PC.out.two; clear q0 q1 q2; obtain ⟨q0, q1, q2⟩ := DK.out _ hc.bl; clear hc hf)
            | (go_at_call 19; (with_reducible refine (RO.out _ _ PC.out).mono ?_); rintro e w5 ⟨rfl, hbc⟩; have P5 := Lib.hid (PC.out.below hbc); (try clear m0 m1 z0 z1); obtain ⟨⟨m0, m1⟩, z0, z1⟩ := P5.out.two; replace hbc := Lib.hid hbc))
          clear m0 m1 z0 z1 q0 q1 q2
          have PF := Lib.hid (P5.out.stored (M' := M1) (HM.out ▸ P5.out.xr) (HM.out ▸ P5.out.off))
          obtain ⟨W5, hW5⟩ : ∃ W, W = (w5.setCell ⟨xb, 0, none⟩ (.slice (some ⟨hb, 0, none⟩) 3 3)).setCell ⟨xb, 1, none⟩ (.slice (some ⟨ob, 0, none⟩) 3 cp) := ⟨_, rfl⟩
          rw [← hW5] at PF
          rw [← hW5]
          clear hW5
          obtain ⟨⟨m0, m1⟩, z0, z1⟩ := PF.out.two
          have AL : Hid (Calls Tryd.prog 20 #[.pointer (some ⟨p, 0, none⟩), .agg #[.slice (some ⟨hb, 0, none⟩) 3 3, .slice (some ⟨ob, 0, none⟩) 3 cp]] W5 fun e w' => e = .returned (.bool true) ∧ Below W5.heap.size W5 w') := Lib.hid (alike_any PF.out.cs PF.out.xr)
          go_wp2_with (go_at_call 20; (with_reducible refine AL.out.mono ?_); rintro e w6 ⟨rfl, hbc⟩; have P6 := Lib.hid (PF.out.below hbc); clear hbc)
          go_roundw
          case rel => exact ⟨k + 1, M1, _, ob, cp, _, _, by omega, by omega, by go_num, P6⟩
          case measure => simp [intOf]; omega
    · have hcases : ¬ k < len ∨ (k < len ∧ ¬ k < 80) := by
        rcases Nat.lt_or_ge k len with h | h
        · exact .inr ⟨h, by omega⟩
        · exact .inl (by omega)
      clear hc1
      rcases hcases with e1 | ⟨e1, e2⟩
      all_goals
        go_wp2
        go_ret
        exact ⟨rfl, PC.out.cs.bl⟩
end
end Go.Proofs.YthklbkgehfgdgaaDoor
