/- The walk of 'alike': where lists in an arena and the document's are the same, it returns true. Condition: the blocks are known. -/
import Derived.Test.YthklbkgehfgdgaaDoorChRPop
namespace Go.Proofs.YthklbkgehfgdgaaDoor
open Go.RowKit

/-- What 'alike' is handed, and its box; what turned since w. -/
structure Ab (w0 w wr : World) (p g : Nat) (L : Nat → List Nat) (f : Nat → Int) (hb ob cp : Nat) (A : Nat → Option Addr) (cc : Nat → Nat) (b : Nat) : Prop where
  cs : Cs w0 wr p g L f
  xr : Xr wr ⟨w0.heap.size, g⟩ hb ob cp A cc L
  bx : X2 wr b hb ob cp
  lt : b < wr.heap.size
  fr : Below w.heap.size w wr
section
variable {w0 w wr w' : World} {p g hb ob cp b : Nat} {L : Nat → List Nat} {f : Nat → Int} {A : Nat → Option Addr} {cc : Nat → Nat}
theorem Ab.below (a : Ab w0 w wr p g L f hb ob cp A cc b) (h : Below wr.heap.size wr w') : Ab w0 w w' p g L f hb ob cp A cc b :=
  ⟨a.cs.below h, a.xr.below h, x2_keep a.bx a.lt h, Nat.lt_of_lt_of_le a.lt h.size, a.fr.trans (h.mono a.fr.size)⟩
set_option maxRecDepth 100000 in
set_option maxHeartbeats 8000000 in
theorem alike_any (c : Cs w0 w p g L f) (x : Xr w ⟨w0.heap.size, g⟩ hb ob cp A cc L) :
    Calls Tryd.prog 20 #[.pointer (some ⟨p, 0, none⟩), xv hb ob cp] w fun e w' => e = .returned (.bool true) ∧ Below w.heap.size w w' := by
  obtain ⟨w1, hw1⟩ : ∃ w1, w1 = w.alloc (.cells #[.slice (some ⟨hb, 0, none⟩) 3 3, .slice (some ⟨ob, 0, none⟩) 3 cp] 29) := ⟨_, rfl⟩
  obtain ⟨b, hbe⟩ : ∃ b, b = w.heap.size := ⟨_, rfl⟩
  have AB : Hid (Ab w0 w w1 p g L f hb ob cp A cc b) := Lib.hid (by
    have hbl := below_one w (.cells #[.slice (some ⟨hb, 0, none⟩) 3 3, .slice (some ⟨ob, 0, none⟩) 3 cp] 29)
    rw [hw1, hbe]
    exact ⟨c.below hbl, x.below hbl, x2_new w hb ob cp, by simp, hbl⟩)
  have HW := Lib.hid hw1
  have HBE := Lib.hid hbe
  have CH := Lib.hid c.ch
  clear c x hw1 hbe
  unfold xv
  go_enter Tryd.func20, Tryd.ntmps20
  go_wp2_with fail
  rw [← HBE.out, ← HW.out]
  go_loopw [5] (fun v wr => ∃ i : Nat, i ≤ 3 ∧ v = .int .i64 i ∧ Hid (Ab w0 w wr p g L f hb ob cp A cc b)) (fun v _ => 3 - (intOf v).toNat)
  case atStart => exact ⟨0, Nat.zero_le _, rfl, AB⟩
  case round =>
    clear AB
    obtain ⟨i, hi, rfl, AB⟩ := hrel
    obtain ⟨m0, m1⟩ := AB.out.bx
    by_cases hlt : i < 3
    · have hw8 : IntKind.u8.wrap (i : Int) = i := by rw [IntKind.wrap_u8]; omega
      obtain ⟨hv, hve⟩ : ∃ v, v = hdN i := ⟨_, rfl⟩
      have hvin : Hid (hv ∈ H3) := Lib.hid (hve ▸ hdN_in i)
      have HDh : Hid (∀ w, Calls Tryd.prog 12 #[.int .u8 (i : Int)] w fun e w' => e = .returned (.int .i64 (hv : Nat)) ∧ w = w') := Lib.hid fun w => by rw [hve]; exact head_any i (by omega) w
      obtain ⟨l, hle⟩ : ∃ l, l = L hv := ⟨_, rfl⟩
      obtain ⟨n1, hn1⟩ : ∃ n, n = l.length := ⟨_, rfl⟩
      have hn14 : n1 ≤ 14 := by rw [hn1, hle]; exact CH.out.len hvin.out
      obtain ⟨e1, he1⟩ : ∃ e, e = en L hv true := ⟨_, rfl⟩
      obtain ⟨e2, he2⟩ : ∃ e, e = en L hv false := ⟨_, rfl⟩
      have A1 : Hid (∀ w', Ab w0 w w' p g L f hb ob cp A cc b → Calls Tryd.prog 25 #[.pointer (some ⟨p, 0, none⟩), .int .i64 hv] w' fun e w'' => ∃ A' cap, e = .returned (.tuple #[.slice A' n1 cap, .int .i64 0]) ∧ Sx w'' ⟨w0.heap.size, g⟩ A' l ∧ Below w'.heap.size w' w'') := Lib.hid fun w' a => by
        have := cs_all a.cs hvin.out
        rw [← hle, ← hn1] at this
        exact this
      have ET : Hid (∀ w', Ab w0 w w' p g L f hb ob cp A cc b → Calls Tryd.prog 21 #[.pointer (some ⟨p, 0, none⟩), .int .i64 hv, .bool true] w' fun e w'' => e = .returned (.tuple #[.int .i64 (e1 : Nat), .int .i64 0]) ∧ Below w'.heap.size w' w'') := Lib.hid fun w' a => by
        rw [he1]; exact cs_end a.cs true hvin.out
      have EF : Hid (∀ w', Ab w0 w w' p g L f hb ob cp A cc b → Calls Tryd.prog 21 #[.pointer (some ⟨p, 0, none⟩), .int .i64 hv, .bool false] w' fun e w'' => e = .returned (.tuple #[.int .i64 (e2 : Nat), .int .i64 0]) ∧ Below w'.heap.size w' w'') := Lib.hid fun w' a => by
        rw [he2]; exact cs_end a.cs false hvin.out
      have RT : Hid (∀ w', Ab w0 w w' p g L f hb ob cp A cc b → Calls Tryd.prog 37 #[.agg #[.slice (some ⟨hb, 0, none⟩) 3 3, .slice (some ⟨ob, 0, none⟩) 3 cp], .int .i64 hv, .bool true] w' fun e w'' => e = .returned (.int .i64 (e1 : Nat)) ∧ Below w'.heap.size w' w'') := Lib.hid fun w' a => by
        rw [he1]; exact rend_any a.xr hv hvin.out true
      have RF : Hid (∀ w', Ab w0 w w' p g L f hb ob cp A cc b → Calls Tryd.prog 37 #[.agg #[.slice (some ⟨hb, 0, none⟩) 3 3, .slice (some ⟨ob, 0, none⟩) 3 cp], .int .i64 hv, .bool false] w' fun e w'' => e = .returned (.int .i64 (e2 : Nat)) ∧ Below w'.heap.size w' w'') := Lib.hid fun w' a => by
        rw [he2]; exact rend_any a.xr hv hvin.out false
      have OF : Hid (∀ w', Ab w0 w w' p g L f hb ob cp A cc b → Calls Tryd.prog 34 #[.agg #[.slice (some ⟨hb, 0, none⟩) 3 3, .slice (some ⟨ob, 0, none⟩) 3 cp], .int .i64 hv] w' fun e w'' => e = .returned (.slice (A i) n1 (cc i)) ∧ Below w'.heap.size w' w'') := Lib.hid fun w' a => by
        have := rof_any a.xr hlt hv hve
        rwa [← hve, ← hle, ← hn1] at this
      have SM : Hid (∀ w' A' cap, Ab w0 w w' p g L f hb ob cp A cc b → Sx w' ⟨w0.heap.size, g⟩ A' l → Calls Tryd.prog 26 #[.slice A' n1 cap, .slice (A i) n1 (cc i)] w' fun e w'' => e = .returned (.bool true) ∧ Below w'.heap.size w' w'') := Lib.hid fun w' A' cap a hs => by
        have hx := a.xr.sx i hlt
        rw [← hve, ← hle] at hx
        exact same_sx cap (cc i) n1 hs hx hn1.symm (by omega)
      clear hve hle hn1 he1 he2
      go_wp2_with (first
        | (go_at_call 12; (with_reducible refine (HDh.out _).mono ?_); rintro e wd ⟨rfl, rfl⟩)
        | (go_at_call 25; (with_reducible refine (A1.out _ AB.out).mono ?_); rintro e wd ⟨A', cap', rfl, hs, hbc⟩; have AB := Lib.hid (AB.out.below hbc); have SL := Lib.hid hs; clear hs; (try clear m0 m1); obtain ⟨m0, m1⟩ := AB.out.bx; clear hbc)
        | (go_at_call 21; (with_reducible refine (ET.out _ AB.out).mono ?_); rintro e wd ⟨rfl, hbc⟩; have AB := Lib.hid (AB.out.below hbc); have SL := Lib.hid (SL.out.keep (Kx.below hbc)); (try clear m0 m1); obtain ⟨m0, m1⟩ := AB.out.bx; clear hbc)
        | (go_at_call 21; (with_reducible refine (EF.out _ AB.out).mono ?_); rintro e wd ⟨rfl, hbc⟩; have AB := Lib.hid (AB.out.below hbc); have SL := Lib.hid (SL.out.keep (Kx.below hbc)); (try clear m0 m1); obtain ⟨m0, m1⟩ := AB.out.bx; clear hbc)
        | (go_at_call 34; (with_reducible refine (OF.out _ AB.out).mono ?_); rintro e wd ⟨rfl, hbc⟩; have AB := Lib.hid (AB.out.below hbc); have SL := Lib.hid (SL.out.keep (Kx.below hbc)); (try clear m0 m1); obtain ⟨m0, m1⟩ := AB.out.bx; clear hbc)
        | (go_at_call 26; (with_reducible refine (SM.out _ _ _ AB.out SL.out).mono ?_); rintro e wd ⟨rfl, hbc⟩; have AB := Lib.hid (AB.out.below hbc); have SL := Lib.hid (SL.out.keep (Kx.below hbc)); (try clear m0 m1); obtain ⟨m0, m1⟩ := AB.out.bx; clear hbc)
        | (go_at_call 37; (with_reducible refine (RT.out _ AB.out).mono ?_); rintro e wd ⟨rfl, hbc⟩; have AB := Lib.hid (AB.out.below hbc); have SL := Lib.hid (SL.out.keep (Kx.below hbc)); (try clear m0 m1); obtain ⟨m0, m1⟩ := AB.out.bx; clear hbc)
        | (go_at_call 37; (with_reducible refine (RF.out _ AB.out).mono ?_); rintro e wd ⟨rfl, hbc⟩; have AB := Lib.hid (AB.out.below hbc); have SL := Lib.hid (SL.out.keep (Kx.below hbc)); (try clear m0 m1); obtain ⟨m0, m1⟩ := AB.out.bx; clear hbc))
      go_roundw
      case rel => exact ⟨i + 1, hlt, by go_num, AB⟩
      case measure => simp [intOf]; omega
    · obtain rfl : i = 3 := by omega
      rw [show ((3 : Nat) : Int) = (3 : Int) from rfl]
      clear m0 m1
      go_wp2_with fail
      go_loopw [13] (fun v wr => ∃ k : Nat, k ≤ 14 ∧ v = .int .i64 k ∧ Hid (Ab w0 w wr p g L f hb ob cp A cc b)) (fun v _ => 14 - (intOf v).toNat)
      case atStart => exact ⟨0, Nat.zero_le _, rfl, AB⟩
      case round =>
        clear AB
        obtain ⟨k, hk, rfl, AB⟩ := hrel
        obtain ⟨m0, m1⟩ := AB.out.bx
        by_cases hlt : k < 14
        · have hw8 : IntKind.u8.wrap (k : Int) = k := by rw [IntKind.wrap_u8]; omega
          obtain ⟨nd, hnd⟩ : ∃ v, v = ndN k := ⟨_, rfl⟩
          have hnin : Hid (N14 nd) := Lib.hid (hnd ▸ ndN_in k)
          have NDk : Hid (∀ w, Calls Tryd.prog 13 #[.int .u8 (k : Int)] w fun e w' => e = .returned (.int .i64 (nd : Nat)) ∧ w = w') := Lib.hid fun w => by rw [hnd]; exact node_any k (by omega) w
          obtain ⟨o, ho⟩ : ∃ o, o = ow L nd := ⟨_, rfl⟩
          obtain ⟨x1, hx1⟩ : ∃ o, o = nx L nd true := ⟨_, rfl⟩
          obtain ⟨x2, hx2⟩ : ∃ o, o = nx L nd false := ⟨_, rfl⟩
          have OW : Hid (∀ w', Ab w0 w w' p g L f hb ob cp A cc b → Calls Tryd.prog 22 #[.pointer (some ⟨p, 0, none⟩), .int .i64 nd] w' fun e w'' => e = .returned (.tuple #[.int .i64 (o : Nat), .int .i64 0]) ∧ Below w'.heap.size w' w'') := Lib.hid fun w' a => by
            rw [ho]; exact cs_owner a.cs hnin.out
          have NT : Hid (∀ w', Ab w0 w w' p g L f hb ob cp A cc b → Calls Tryd.prog 23 #[.pointer (some ⟨p, 0, none⟩), .int .i64 nd, .bool true] w' fun e w'' => e = .returned (.tuple #[.int .i64 (x1 : Nat), .int .i64 0]) ∧ Below w'.heap.size w' w'') := Lib.hid fun w' a => by
            rw [hx1]; exact cs_next a.cs true hnin.out
          have NF : Hid (∀ w', Ab w0 w w' p g L f hb ob cp A cc b → Calls Tryd.prog 23 #[.pointer (some ⟨p, 0, none⟩), .int .i64 nd, .bool false] w' fun e w'' => e = .returned (.tuple #[.int .i64 (x2 : Nat), .int .i64 0]) ∧ Below w'.heap.size w' w'') := Lib.hid fun w' a => by
            rw [hx2]; exact cs_next a.cs false hnin.out
          have RO : Hid (∀ w', Ab w0 w w' p g L f hb ob cp A cc b → Calls Tryd.prog 33 #[.agg #[.slice (some ⟨hb, 0, none⟩) 3 3, .slice (some ⟨ob, 0, none⟩) 3 cp], .int .i64 nd] w' fun e w'' => e = .returned (.int .i64 (o : Nat)) ∧ Below w'.heap.size w' w'') := Lib.hid fun w' a => by
            rw [ho]; exact rowner_any a.xr nd
          have RT : Hid (∀ w', Ab w0 w w' p g L f hb ob cp A cc b → Calls Tryd.prog 39 #[.agg #[.slice (some ⟨hb, 0, none⟩) 3 3, .slice (some ⟨ob, 0, none⟩) 3 cp], .int .i64 nd, .bool true] w' fun e w'' => e = .returned (.int .i64 (x1 : Nat)) ∧ Below w'.heap.size w' w'') := Lib.hid fun w' a => by
            rw [hx1]; exact rnext_any a.xr CH.out nd true
          have RF : Hid (∀ w', Ab w0 w w' p g L f hb ob cp A cc b → Calls Tryd.prog 39 #[.agg #[.slice (some ⟨hb, 0, none⟩) 3 3, .slice (some ⟨ob, 0, none⟩) 3 cp], .int .i64 nd, .bool false] w' fun e w'' => e = .returned (.int .i64 (x2 : Nat)) ∧ Below w'.heap.size w' w'') := Lib.hid fun w' a => by
            rw [hx2]; exact rnext_any a.xr CH.out nd false
          clear hnd ho hx1 hx2
          go_wp2_with (first
            | (go_at_call 13; (with_reducible refine (NDk.out _).mono ?_); rintro e wd ⟨rfl, rfl⟩)
            | (go_at_call 22; (with_reducible refine (OW.out _ AB.out).mono ?_); rintro e wd ⟨rfl, hbc⟩; have AB := Lib.hid (AB.out.below hbc); (try clear m0 m1); obtain ⟨m0, m1⟩ := AB.out.bx; clear hbc)
            | (go_at_call 23; (with_reducible refine (NT.out _ AB.out).mono ?_); rintro e wd ⟨rfl, hbc⟩; have AB := Lib.hid (AB.out.below hbc); (try clear m0 m1); obtain ⟨m0, m1⟩ := AB.out.bx; clear hbc)
            | (go_at_call 23; (with_reducible refine (NF.out _ AB.out).mono ?_); rintro e wd ⟨rfl, hbc⟩; have AB := Lib.hid (AB.out.below hbc); (try clear m0 m1); obtain ⟨m0, m1⟩ := AB.out.bx; clear hbc)
            | (go_at_call 33; (with_reducible refine (RO.out _ AB.out).mono ?_); rintro e wd ⟨rfl, hbc⟩; have AB := Lib.hid (AB.out.below hbc); (try clear m0 m1); obtain ⟨m0, m1⟩ := AB.out.bx; clear hbc)
            | (go_at_call 39; (with_reducible refine (RT.out _ AB.out).mono ?_); rintro e wd ⟨rfl, hbc⟩; have AB := Lib.hid (AB.out.below hbc); (try clear m0 m1); obtain ⟨m0, m1⟩ := AB.out.bx; clear hbc)
            | (go_at_call 39; (with_reducible refine (RF.out _ AB.out).mono ?_); rintro e wd ⟨rfl, hbc⟩; have AB := Lib.hid (AB.out.below hbc); (try clear m0 m1); obtain ⟨m0, m1⟩ := AB.out.bx; clear hbc))
          go_roundw
          case rel => exact ⟨k + 1, hlt, by go_num, AB⟩
          case measure => simp [intOf]; omega
        · obtain rfl : k = 14 := by omega
          go_wp2
          go_ret
          exact ⟨rfl, AB.out.fr⟩
end
end Go.Proofs.YthklbkgehfgdgaaDoor
