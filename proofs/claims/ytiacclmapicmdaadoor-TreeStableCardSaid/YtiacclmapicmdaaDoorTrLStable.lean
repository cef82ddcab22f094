/- The walk of TreeStable: it returns true, and nothing that was there has turned. Condition: the table of widths lies in its block. -/
import Derived.Test.YtiacclmapicmdaaDoorTrLRange
import Derived.Deep.LoopGhost
import Derived.Test.YtiacclmapicmdaaDoorXApp
import Derived.Deep.CutRange
import Derived.Deep.QuietTactic
import Derived.BigQuiet
namespace Go.Proofs.YtiacclmapicmdaaDoor
open Go.RowKit

theorem below_drewN {B : Nat} {w w' : World} (h : Below B w w') (n : Nat) : Below B w (w'.drewN n) := ⟨h.os, h.tape, h.output, h.size, h.block⟩
theorem st_wipe (f : Nat → Int) (a k : Nat) : st f a 0 8 k = if a ≤ k ∧ k < a + 8 then 0 else f k := by
  unfold st
  split
  · unfold byteOf
    simp
  · rfl
/-- A leaf's key is turned to 0. -/
theorem Lw.wipe {w0 w : World} {p g : Nat} {f0 : Nat → Int} {T0 : T} (L : Lw w0 w p g f0 T0) {k : Nat} (hk : N40 k) {a : Int} (ha : a = ((32 * k : Nat) : Int) - 8) :
    Calls Tryd.prog 27 #[.pointer (some ⟨p, 0, none⟩), .int .i64 a, .int .i64 8, .int .u64 0] w fun e w' => e = .returned (.int .i64 0) ∧ Lw w0 w' p g (st f0 (32 * k - 8) 0 8) T0 ∧ Fg g w w' := by
  obtain ⟨s, I, L⟩ := L
  obtain ⟨f, t⟩ := L.tx.td
  obtain ⟨hk1, hk2⟩ := hk
  have e : a = ((32 * k - 8 : Nat) : Int) := by rw [ha]; omega
  rw [e]
  refine (store_ok p g 2048 f (32 * k - 8) 8 0 t.aw.tab t.aw.ar (Int.le_refl 0) (by decide) (by omega)).mono ?_
  rintro e w' ⟨h1, h2, h3⟩
  have hf := Fg.of_only h3
  have hw : ∀ b, (∀ j, ¬ (32 * j - 8 < b + 4 ∧ b < 32 * j)) → lk (st f (32 * k - 8) 0 8) b = lk f b := fun b hb => by
    unfold lk
    refine ld_congr b 4 fun i h4 h5 => ?_
    rw [st_wipe, if_neg]
    have := hb k
    omega
  have tm : Tm 2048 (fun j => 32 * j) 8 N40 s I (st f (32 * k - 8) 0 8) := ⟨t.tm.pl, fun j hj i hi => by
      have h9 := t.tm.wds j hj i hi
      have hj1 : 1 ≤ j := hj.1
      exact (hw (32 * j + 4 * i) fun l => by omega).trans h9, by
      have h9 := t.tm.top
      exact (hw 8 fun l => by omega).trans h9, t.tm.topN, t.tm.lkN⟩
  have kp : KeepT 8 (fun j => 32 * j) N40 (st f0 (32 * k - 8) 0 8) (st f (32 * k - 8) 0 8) := fun b => by
    rw [st_wipe, st_wipe]
    by_cases hb : 32 * k - 8 ≤ b ∧ b < 32 * k - 8 + 8
    · rw [if_pos hb, if_pos hb]; exact .inl rfl
    · rw [if_neg hb, if_neg hb]
      exact t.kp b
  exact ⟨h1, ⟨s, I, ⟨⟨_, t.aw.fg hf h2, tm, kp, t.zn⟩, L.tx.al, L.tx.inn, L.tx.nN, L.tx.rb⟩, L.bl.trans (hf.below L.bl.size L.gp.2), L.gp⟩, hf⟩
theorem erase_at : ∀ {L : List Nat} {k x : Nat}, L.Nodup → L[k]? = some x → L.erase x = L.take k ++ L.drop (k + 1)
  | [], k, x, _, h => by simp at h
  | a :: L, 0, x, _, h => by
    have : a = x := by simpa using h
    subst this
    simp
  | a :: L, k + 1, x, hn, h => by
    obtain ⟨h1, h2⟩ := List.nodup_cons.1 hn
    have hx : L[k]? = some x := by simpa using h
    have hne : a ≠ x := fun e => h1 (e ▸ List.mem_of_getElem? hx)
    rw [List.erase_cons, if_neg (by simpa using hne), erase_at h2 hx]
    rfl
theorem stb_at {key : Nat → Nat} {L : List Nat} (h : Stb key L) {k x y : Nat} (hx : L[k]? = some x) (hy : L[k + 1]? = some y) : key x < key y ∨ (key x = key y ∧ x < y) := by
  obtain ⟨h1, e1⟩ := List.getElem?_eq_some_iff.1 hx
  obtain ⟨h2, e2⟩ := List.getElem?_eq_some_iff.1 hy
  have := List.pairwise_iff_getElem.1 h k (k + 1) h1 h2 (by omega)
  rw [e1, e2] at this
  exact this
set_option maxRecDepth 100000 in
set_option maxHeartbeats 8000000 in
theorem stable_walk11 (A : Option Addr) (len cap : Nat) (turn : Int) (w : World) (hU : (Lit.int .u16 turn).wf = true) (hD : Keys w A len cap ∧ len ≤ 9223372036854775807) (hT : Tab w) (hB : 0 < w.heap.size) :
    Calls Tryd.prog 5 #[.slice A len cap, .int .u16 turn] w fun e w' => e = .returned (.bool true) ∧ Below w.heap.size w w' := by
  obtain ⟨tn, rfl, htn⟩ : ∃ tn : Nat, turn = tn ∧ tn ≤ 65535 := by
    have := bounds_u16 hU
    exact ⟨turn.toNat, by omega, by omega⟩
  clear hU
  obtain ⟨⟨⟨ys, hys, hkz⟩, hlc⟩, _⟩ := hD
  obtain ⟨m, hm⟩ : ∃ m, m = min len 40 := ⟨_, rfl⟩
  obtain ⟨xs, hxs⟩ : ∃ xs, xs = ys.take m := ⟨_, rfl⟩
  have hxl : xs.length = m := by rw [hxs, List.length_take, hys]; omega
  have hkx : Kz w A xs := by rw [hxs]; exact hkz.take m
  have h40 : m ≤ 40 := by omega
  have FW : Hid (∀ w, Calls Tryd.prog 10 #[.slice A len cap] w fun e w' => (∃ cap', e = .returned (.slice A m cap') ∧ m ≤ cap') ∧ w = w') := Lib.hid fun w => by rw [hm]; exact few_any A len cap hlc w
  have SH := Lib.hid (shown_any11 hT hB)
  have HT := Lib.hid hT
  have HKX := Lib.hid hkx
  have HXL := Lib.hid hxl
  have HWB := Lib.hid hB
  have KYS : Hid (∀ p g, Ky (mkC p g (kf xs m)) (-8) (keyOf xs)) := Lib.hid fun p g => by
    have := ky40 p g xs hkx.lt
    rwa [hxl] at this
  have FRS : Hid (∀ w1 cap', Below w.heap.size w w1 → m ≤ cap' → Calls Tryd.prog 11 #[.slice A m cap'] w1 fun e w' => ∃ p g, e = .returned (.pointer (some ⟨p, 0, none⟩)) ∧ Lx w w' p g (kf xs m) s0 (fun _ => false) .e ∧ Below w1.heap.size w1 w') := Lib.hid fun w1 cap' h1 h2 =>
    fresh_any (HT.out.below h1 HWB.out) (Nat.lt_of_lt_of_le HWB.out h1.size) h1 (HKX.out.below h1) HXL.out h2 h40
  clear hxs hys hkz hkx hxl hlc hT hB hm
  go_enter Tryd.func5, Tryd.ntmps5
  go_wp2_with (first
    | (go_at_call 9; (with_reducible refine SH.out.mono ?_); rintro e wa ⟨rfl, hba⟩; have BA := Lib.hid hba; clear hba)
    | (go_at_call 10; (with_reducible refine (FW.out _).mono ?_); rintro e wf ⟨⟨cap', rfl, hcap⟩, rfl⟩; have HCAP := Lib.hid hcap; clear hcap)
    | (go_at_call 11; (with_reducible refine (FRS.out _ _ BA.out HCAP.out).mono ?_); rintro e wb ⟨p, g, rfl, hL, hbb⟩; have L0 : Hid (Lw w wb p g (kf xs m) .e) := Lib.hid ⟨_, _, hL⟩; have KY := Lib.hid (KYS.out p g); clear hL hbb))
  go_loopg [7] m (fun gk v5 wr => ∃ i : Nat, i + gk = m ∧ v5 = .int .i64 (i : Nat) ∧ Hid (Lw w wr p g (kf xs m) (bld (keyOf xs) i)))
  case atStart => exact ⟨0, by omega, rfl, L0⟩
  case round =>
    obtain ⟨i, hi, rfl, hL⟩ := hrel
    cases gk with
    | succ gk =>
      have him : i < m := by omega
      have ix2 : ((i : Nat) : Int) < (m : Nat) := by omega
      have hw1 : IntKind.i64.wrap ((i : Int) + 1) = (i : Int) + 1 := IntWalk.i64_in _ (by omega)
      have LF : Hid (∀ w, Calls Tryd.prog 14 #[.int .i64 ((i : Int) + 1)] w fun e w' => e = .returned (.int .i64 (32 * ((i : Int) + 1))) ∧ w = w') := Lib.hid fun w => leaf_int _ _ (by omega) rfl w
      have hn40 : Hid (N40 (i + 1)) := Lib.hid ⟨by omega, by omega⟩
      have AD := Lib.hid (hL.out.add_ok KY.out (k := i + 1) (a := 32 * ((i : Int) + 1)) hn40.out (fun h => by have := (bld_mem _ _ _).1 h; omega) (by omega))
      clear him
      go_wp2_with (first
        | (go_at_call 14; (with_reducible refine (LF.out _).mono ?_); rintro e wl ⟨rfl, rfl⟩)
        | (go_at_call 16; (with_reducible refine (AD.out).mono ?_); rintro e wd ⟨rfl, hL, hf⟩; have L1 := Lib.hid hL; clear hL hf; skip; have AD2 := Lib.hid (L1.out.add_in KY.out (k := i + 1) (a := 32 * ((i : Int) + 1)) hn40.out (addT_mem.2 (.inl rfl)) (by omega)))
        | (go_at_call 16; (with_reducible refine (AD2.out).mono ?_); rintro e we ⟨rfl, hb⟩; have L1 := Lib.hid (L1.out.below hb); clear hb))
      go_roundg gk
      case measure => omega
      case rel => exact ⟨i + 1, by omega, by go_num, L1⟩
    | zero =>
      obtain rfl : i = m := by omega
      have LM := hL
      clear hi hL
      obtain ⟨T0, hT0⟩ : ∃ T0, T0 = bld (keyOf xs) i := ⟨_, rfl⟩
      have hlen : T0.ns.length = i := by rw [hT0]; exact bld_len _ _
      have STB : Hid (Stb (keyOf xs) T0.ns) := Lib.hid (by rw [hT0]; exact bld_stb _ _)
      have ALLB : Hid (∀ j, 1 ≤ j → j ≤ i → j ∈ T0.ns) := Lib.hid fun j h1 h2 => by rw [hT0]; exact (bld_mem _ _ _).2 ⟨h1, h2⟩
      have MEMB0 : Hid (∀ j, j ∈ T0.ns → 1 ≤ j ∧ j ≤ i) := Lib.hid fun j h => by rw [hT0] at h; exact (bld_mem _ _ _).1 h
      rw [← hT0] at LM
      clear hT0
      obtain ⟨s, I, hX⟩ := LM.out
      have LX := Lib.hid hX
      have HL := Lib.hid hlen
      obtain ⟨N, hN⟩ : ∃ N, N = T0.ns := ⟨_, rfl⟩
      have AL : Hid (∀ w', Lx w w' p g (kf xs i) s I T0 → Calls Tryd.prog 21 #[.pointer (some ⟨p, 0, none⟩), .int .i64 8] w' fun e w'' => ∃ A cap, e = .returned (.tuple #[.slice A i cap, .int .i64 0]) ∧ Rx w'' w'.heap.size A cap (N.map (32 * ·)) ∧ Below w'.heap.size w' w'') := Lib.hid fun w' L => by
        have := L.all
        rwa [hlen, ← hN] at this
      have HN := Lib.hid hN
      clear hX hlen hN
      go_wp2_with (go_at_call 21; (with_reducible refine (AL.out _ LX.out).mono ?_); rintro e wx ⟨A2, cap2, rfl, hrx, hb1⟩; have GB : Hid (g < wr.heap.size) := Lib.hid LX.out.tx.td.gb; have SX : Hid (Sx wx ⟨0, g⟩ A2 (N.map (32 * ·))) := Lib.hid (hrx.sx (fun k hk => ⟨Nat.zero_le _, by have := GB.out; show k ≠ g; omega⟩)); have CP : Hid ((N.map (32 * ·)).length ≤ cap2 ∧ (A2 = none → cap2 = 0)) := Lib.hid ⟨hrx.caps.1, hrx.caps.2.1⟩; have LX := Lib.hid (LX.out.below hb1); clear hb1 hrx)
      have MEMB : Hid (∀ j, j ∈ N → 1 ≤ j ∧ j ≤ i) := Lib.hid fun j h => MEMB0.out j (by rw [← HN.out]; exact h)
      have NL : Hid (N.length = i) := Lib.hid (by rw [HN.out]; exact HL.out)
      have LW0 : Hid (Lw w wx p g (kf xs i) T0) := Lib.hid ⟨_, _, LX.out⟩
      have BX := Lib.hid LX.out.bl
      go_loopg [10] i (fun gk v10 wr => ∃ k : Nat, 1 ≤ k ∧ k + gk = i + 1 ∧ v10 = .int .i64 (k : Nat) ∧ Hid (Lw w wr p g (kf xs i) T0) ∧ Hid (Sx wr ⟨0, g⟩ A2 (N.map (32 * ·))) ∧ Hid (Below w.heap.size w wr))
      case atStart => exact ⟨1, by omega, by omega, rfl, LW0, SX, BX⟩
      case round =>
        obtain ⟨k, hk1, hkg, rfl, hL1, hS1, hB1⟩ := hrel
        by_cases hki : k < i
        · have kI2 : ((k : Nat) : Int) < (i : Nat) := by omega
          have kI1 : (0 : Int) ≤ (k : Nat) - 1 := by omega
          have kI0 : (0 : Int) ≤ (k : Nat) := by omega
          have kI3 : ((k : Nat) : Int) - 1 < (i : Nat) := by omega
          obtain ⟨gk1, rfl⟩ : ∃ gk1, gk = gk1 + 1 := ⟨gk - 1, by omega⟩
          obtain ⟨k1, rfl⟩ : ∃ k1, k = k1 + 1 := ⟨k - 1, by omega⟩
          obtain ⟨x, hx⟩ : ∃ x, N[k1]? = some x := ⟨_, List.getElem?_eq_getElem (by rw [NL.out]; omega)⟩
          obtain ⟨y, hy⟩ : ∃ y, N[k1 + 1]? = some y := ⟨_, List.getElem?_eq_getElem (by rw [NL.out]; omega)⟩
          have hmb : ∀ j, j ∈ N → 1 ≤ j ∧ j ≤ i := MEMB.out
          obtain ⟨x1, x2⟩ := hmb x (List.mem_of_getElem? hx)
          obtain ⟨y1, y2⟩ := hmb y (List.mem_of_getElem? hy)
          have hst := stb_at (by have := STB.out; rwa [← HN.out] at this) hx hy
          obtain ⟨bb, oo, rfl, _, _, hc3⟩ := hS1.out k1 (32 * x) (by rw [List.getElem?_map, hx]; rfl)
          obtain ⟨_, _, e9, _, _, hc4⟩ := hS1.out (k1 + 1) (32 * y) (by rw [List.getElem?_map, hy]; rfl)
          cases e9
          obtain ⟨a1, rfl⟩ : ∃ a1, x = a1 + 1 := ⟨x - 1, by omega⟩
          obtain ⟨a2, rfl⟩ : ∃ a2, y = a2 + 1 := ⟨y - 1, by omega⟩
          have hxl2 : xs.length = i := HXL.out
          obtain ⟨kx, hkx⟩ : ∃ kx, xs[a1]? = some kx := ⟨_, List.getElem?_eq_getElem (by omega)⟩
          obtain ⟨ky, hky⟩ : ∃ ky, xs[a2]? = some ky := ⟨_, List.getElem?_eq_getElem (by omega)⟩
          have ekx : keyOf xs (a1 + 1) = kx := by unfold keyOf; rw [Nat.add_sub_cancel, List.getD_eq_getElem?_getD, hkx]; rfl
          have eky : keyOf xs (a2 + 1) = ky := by unfold keyOf; rw [Nat.add_sub_cancel, List.getD_eq_getElem?_getD, hky]; rfl
          rw [ekx, eky] at hst
          obtain ⟨kb, ko, eA, _, hcx, _⟩ := (HKX.out.below hB1.out) a1 kx hkx
          obtain ⟨_, _, e8, _, hcy, _⟩ := (HKX.out.below hB1.out) a2 ky hky
          rw [eA] at e8
          cases e8
          obtain ⟨px, hpx⟩ : ∃ px, px = 32 * (a1 + 1) := ⟨_, rfl⟩
          obtain ⟨py, hpy⟩ : ∃ py, py = 32 * (a2 + 1) := ⟨_, rfl⟩
          rw [← hpx] at hc3
          rw [← hpy] at hc4
          have hqx : ((px : Nat) : Int) / 32 = (a1 : Int) + 1 := by omega
          have hqy : ((py : Nat) : Int) / 32 = (a2 : Int) + 1 := by omega
          have ixa0 : (0 : Int) ≤ (a1 : Nat) := by omega
          have ixa1 : ((a1 : Nat) : Int) < (i : Nat) := by omega
          have ixb0 : (0 : Int) ≤ (a2 : Nat) := by omega
          have ixb1 : ((a2 : Nat) : Int) < (i : Nat) := by omega
          have hpxy : Hid (a1 < a2 → ¬ py ≤ px) := Lib.hid (by omega)
          have HST := Lib.hid hst
          have HKG := Lib.hid hkg
          subst eA
          clear hx hy hmb hst hxl2 hkx hky ekx eky hpx hpy hki x1 x2 y1 y2 hkg
          by_cases hlt : kx < ky
          · have t1 : ¬ ky < kx := by omega
            have t2 : ¬ kx = ky := by omega
            have t1d : decide (ky < kx) = false := decide_eq_false t1
            have t1e : decide (((ky : Nat) : Int) < (kx : Nat)) = false := decide_eq_false (by omega)
            have t2d : (kx == ky) = false := beq_eq_false_iff_ne.2 t2
            have t2e : (((kx : Nat) : Int) == (ky : Nat)) = false := beq_eq_false_iff_ne.2 (by omega)
            clear hlt
            go_wp2_with fail
            go_quiet (fail)
            go_wp2_with fail
            have hkg := HKG.out
            go_roundg gk1
            case measure => omega
            case rel => exact ⟨k1 + 1 + 1, by omega, by omega, by go_num, Lib.hid (hL1.out.below (below_drewN (Below.refl _ _) _)), Lib.hid (hS1.out.keep (Kx.below (below_drewN (Below.refl _ _) _))), Lib.hid (below_drewN hB1.out _)⟩
          · obtain ⟨e7, h7⟩ := HST.out.resolve_left hlt
            obtain rfl : kx = ky := e7
            have t3 : ¬ py ≤ px := hpxy.out (by omega)
            have t3d : decide (py ≤ px) = false := decide_eq_false t3
            have t3e : decide (((py : Nat) : Int) ≤ (px : Nat)) = false := decide_eq_false (by omega)
            have t4 : ¬ kx < kx := Nat.lt_irrefl _
            have t4d : decide (kx < kx) = false := decide_eq_false t4
            have t4e : decide (((kx : Nat) : Int) < (kx : Nat)) = false := decide_eq_false (by omega)
            clear hlt h7
            go_wp2_with fail
            go_quiet (fail)
            go_wp2_with fail
            have hkg := HKG.out
            go_roundg gk1
            case measure => omega
            case rel => exact ⟨k1 + 1 + 1, by omega, by omega, by go_num, Lib.hid (hL1.out.below (below_drewN (Below.refl _ _) _)), Lib.hid (hS1.out.keep (Kx.below (below_drewN (Below.refl _ _) _))), Lib.hid (below_drewN hB1.out _)⟩
        · have hkI : ¬ k < i := hki
          have DZ : Hid (∀ b, kf xs i b = 0 ∨ ∃ j, j ∈ T0.ns ∧ 32 * j - 8 ≤ b ∧ b < 32 * j) := Lib.hid fun b => by
            by_cases hb : ∃ j, 1 ≤ j ∧ j ≤ i ∧ 32 * j - 8 ≤ b ∧ b < 32 * j
            · obtain ⟨j, h1, h2, h3, h4⟩ := hb
              exact .inr ⟨j, ALLB.out j h1 h2, h3, h4⟩
            · left
              exact kf_out xs i b fun j h1 h2 h3 => hb ⟨j, h1, h2, h3.1, h3.2⟩
          clear hkg hki
          go_wp2_with fail
          go_loopg [8] i (fun gk v8 wr => ∃ (T1 : T) (A3 : Option Addr) (cap3 : Nat) (f1 : Nat → Int), v8 = .slice A3 gk cap3 ∧ gk ≤ i ∧ gk ≤ cap3 ∧ Hid (T1.ns.length = gk) ∧ Hid (A3 = none → cap3 = 0) ∧ Hid (Sx wr ⟨0, g⟩ A3 (T1.ns.map (32 * ·))) ∧ Hid (Lw w wr p g f1 T1) ∧ Hid (∀ b, f1 b = 0 ∨ ∃ j, j ∈ T1.ns ∧ 32 * j - 8 ≤ b ∧ b < 32 * j))
          case atStart => exact ⟨T0, A2, cap2, kf xs i, rfl, Nat.le_refl _, by have := CP.out.1; rw [List.length_map, NL.out] at this; exact this, HL, Lib.hid CP.out.2, Lib.hid (by have := hS1.out; rwa [HN.out] at this), hL1, DZ⟩
          case round =>
            obtain ⟨T1, A3, cap3, f1, rfl, hgi, hgc, hTl, hA3, hS3, hL3, hz3⟩ := hrel
            cases gk with
            | zero =>
              have he : T1 = .e := empty_of hTl.out
              subst he
              have AW : Hid (Aw wr p g 2048 (fun _ => 0)) := Lib.hid (hL3.out.zero (fun b => by
                rcases hz3.out b with h | ⟨j, hj, _⟩
                · exact h
                · cases hj))
              have BL := Lib.hid hL3.out.bl
              clear hgi hgc
              go_wp2_with (go_at_call 28; (with_reducible refine (by2048 AW.out).mono ?_); rintro e wb2 ⟨rfl, hbk, hbb⟩; have BL := Lib.hid (BL.out.trans (hbb.mono BL.out.size)); generalize wr.heap.size = bb at hbk ⊢; replace hbk := Lib.hid hbk; clear hbb)
              have hz : Hid (∀ j : Nat, j < 2048 → wb2.cell? ⟨bb, j, none⟩ = some (.int .u8 0)) := Lib.hid fun j hj => by
                have h5 := hbk.out.cell j
                rw [row_at _ _ _ hj] at h5
                exact h5
              go_wp2_with fail
              go_loop [17] (fun v => ∃ j : Nat, j ≤ 2048 ∧ v = .int .i64 j) (fun v => 2048 - (intOf v).toNat)
              case atStart => exact ⟨0, Nat.zero_le _, rfl⟩
              case round =>
                obtain ⟨j, hj, rfl⟩ := hrel
                by_cases hjc : j < 2048
                · have hcj := hz.out j hjc
                  go_wp2
                  go_round
                  case rel => exact ⟨j + 1, hjc, by go_num⟩
                  case measure => simp [intOf]; omega
                · obtain rfl : j = 2048 := by omega
                  go_wp2
                  go_ret
                  exact ⟨rfl, BL.out⟩
            | succ gk =>
              obtain ⟨kn, hkn⟩ : ∃ kn, kn = gk + 1 := ⟨_, rfl⟩
              rw [← hkn] at hgi hgc hTl ⊢
              have hkn1 : 1 ≤ kn := by omega
              have kI0 : (0 : Int) < (kn : Nat) := by omega
              have knz : ¬ kn = 0 := by omega
              obtain ⟨k2, hk2⟩ : ∃ k2, k2 = tn % kn := ⟨_, rfl⟩
              have hk2l : k2 < kn := by rw [hk2]; exact Nat.mod_lt _ hkn1
              have hrem : ((tn : Nat) : Int) % (kn : Nat) = (k2 : Nat) := by rw [hk2]; exact (Int.natCast_emod tn kn).symm
              obtain ⟨x, hx⟩ : ∃ x, T1.ns[k2]? = some x := ⟨_, List.getElem?_eq_getElem (by rw [hTl.out]; exact hk2l)⟩
              have hin : x ∈ T1.ns := List.mem_of_getElem? hx
              have hxN : N40 x := hL3.out.len.2.2.1 x hin
              have hnd := hL3.out.len.2.1
              have her := erase_at hnd hx
              obtain ⟨bb, oo, rfl, _, _, hc5⟩ := hS3.out k2 (32 * x) (by rw [List.getElem?_map, hx]; rfl)
              obtain ⟨px, hpx⟩ : ∃ px, px = 32 * x := ⟨_, rfl⟩
              rw [← hpx] at hc5
              have hpxb : 32 ≤ px ∧ px ≤ 1280 := by have := hxN.1; have := hxN.2; omega
              have hwx : IntKind.i64.wrap ((px : Int) - 8) = (px : Int) - 8 := IntWalk.i64_in _ (by omega)
              have hwj : IntKind.i64.wrap ((k2 : Int) + 1) = (k2 : Int) + 1 := IntWalk.i64_in _ (by omega)
              have htn2 : ((k2 : Int) + 1).toNat = k2 + 1 := by omega
              have h01 : (0 : Int) ≤ (k2 : Int) + 1 := by omega
              have h00 : (0 : Int) ≤ (k2 : Nat) := by omega
              have hk2I : ((k2 : Nat) : Int) < (kn : Nat) := by omega
              have hk2c : ((k2 : Nat) : Int) ≤ (cap3 : Nat) := by omega
              have hjcc : k2 ≤ cap3 := by omega
              have hjk1 : k2 + 1 ≤ kn := hk2l
              have hjk2 : (k2 : Int) + 1 ≤ (kn : Int) := by omega
              have DEL := Lib.hid (fun w' (L : Lw w w' p g f1 T1) => L.del_ok (a := (px : Nat)) hin (by rw [hpx]))
              have DNO : Hid (∀ w' T2, Lw w w' p g f1 T2 → T2.ns = T1.ns.erase x → Calls Tryd.prog 13 #[.pointer (some ⟨p, 0, none⟩), .int .i64 8, .int .i64 (px : Nat)] w' fun e w'' => e = .returned (.int .i64 8) ∧ Below w'.heap.size w' w'') := Lib.hid fun w' T2 L h => L.del_no hxN (by rw [h]; exact List.Nodup.not_mem_erase hnd) (by rw [hpx])
              have WIP : Hid (∀ w' T2, Lw w w' p g f1 T2 → Calls Tryd.prog 27 #[.pointer (some ⟨p, 0, none⟩), .int .i64 ((px : Int) - 8), .int .i64 8, .int .u64 0] w' fun e w'' => e = .returned (.int .i64 0) ∧ Lw w w'' p g (st f1 (32 * x - 8) 0 8) T2 ∧ Fg g w' w'') := Lib.hid fun w' T2 L => L.wipe hxN (by rw [hpx])
              obtain ⟨ys, hys⟩ : ∃ ys : List Nat, ys = T1.ns.map (32 * ·) := ⟨_, rfl⟩
              have hyl : ys.length = kn := by rw [hys, List.length_map, hTl.out]
              have hyer : Hid ([] ++ ys.take k2 ++ ys.drop (k2 + 1) = (T1.ns.erase x).map (32 * ·)) := Lib.hid (by rw [hys, her]; simp [List.map_take, List.map_drop])
              rw [← hys] at hS3
              have HYL := Lib.hid hyl
              have HKN := Lib.hid hkn
              have HER : Hid ((T1.ns.erase x).length = gk) := Lib.hid (by rw [List.length_erase_of_mem hin, hTl.out]; omega)
              have HZ4 : Hid (∀ b, st f1 (32 * x - 8) 0 8 b = 0 ∨ ∃ j, j ∈ T1.ns.erase x ∧ 32 * j - 8 ≤ b ∧ b < 32 * j) := Lib.hid fun b => by
                rw [st_wipe]
                by_cases hb : 32 * x - 8 ≤ b ∧ b < 32 * x - 8 + 8
                · rw [if_pos hb]; exact .inl rfl
                · rw [if_neg hb]
                  rcases hz3.out b with h | ⟨j, hj, h3, h4⟩
                  · exact .inl h
                  · refine .inr ⟨j, (List.mem_erase_of_ne (fun e => ?_)).2 hj, h3, h4⟩
                    subst e
                    have := hxN.1
                    exact hb ⟨h3, by omega⟩
              have HG2 : Hid (g < wr.heap.size) := Lib.hid (by obtain ⟨_, _, L⟩ := hL3.out; exact L.tx.td.gb)
              have LIT0 : Hid ((wr.alloc (.cells #[] 3)).ownsRow wr.heap.size 3 1 (.slice (some ⟨wr.heap.size, 0, none⟩) 0 0) 0 (intx [])) := Lib.hid (World.ownsRow_lit wr #[] 0 (Nat.le_refl _) (by decide) rfl)
              have XC : Hid (Below wr.heap.size wr wr) := Lib.hid (Below.refl _ _)
              clear hin hnd hx her hpx hpxb hys hk2 hxN hkn hkn1 hyl
              by_cases hce : cap3 = k2 + 1
              · subst hce
                have hle : (k2 : Int) ≤ (k2 : Int) + 1 := by omega
                obtain rfl : kn = k2 + 1 := by omega
                have hrem2 : ((tn : Nat) : Int) % ((k2 : Int) + 1) = (k2 : Nat) := by rw [show ((k2 : Int) + 1) = ((k2 + 1 : Nat) : Int) from by omega]; exact hrem
                have hk2J : ((k2 : Nat) : Int) < (k2 : Int) + 1 := by omega
                clear hrem
                have SD : Hid (∀ W, Sx W ⟨0, g⟩ (some ⟨bb, oo, none⟩) (ys.drop (k2 + 1))) := Lib.hid fun W => by
                  rw [List.drop_eq_nil_of_le (by have := HYL.out; omega)]
                  exact Sx.nil _ _ _
                go_wp2_with fail
                go_region_held_law (fun _ => True) (trivial) (first
                  | (refine tstep_xapp (w := wr) rfl (.tmp 114) (.tmp 117) rfl ⟨0, g⟩ 0 _ _ _ [] (ys.take k2) (some ⟨bb, oo, none⟩) rfl LIT0.out rfl ((hS3.out.take k2).keep (Kx.below ?hb1)) ?hm (fun h => by cases h) ?hb3 ?hb2 ?_
                     case hb1 => ((repeat' (first | (with_reducible exact XC.out) | (with_reducible exact Below.refl _ _) | (refine Below.drew ?_) | (refine Below.alloc ?_ ?_ _) | (refine Below.setCell ?_ ?_ _))); all_goals (first | exact Nat.le_refl _ | exact XC.out.size | omega | (simp; done) | (simp; omega) | (have hs := XC.out.size; simp; omega)))
                     case hb2 => ((repeat' (first | (with_reducible exact XC.out) | (with_reducible exact Below.refl _ _) | (refine Below.drew ?_) | (refine Below.alloc ?_ ?_ _) | (refine Below.setCell ?_ ?_ _))); all_goals (first | exact Nat.le_refl _ | exact XC.out.size | omega | (simp; done) | (simp; omega) | (have hs := XC.out.size; simp; omega)))
                     case hm => (rw [List.length_take]; have := HYL.out; omega)
                     case hb3 => omega
                     intro v4 w4 hown hgrow hbel
                     have XC := Lib.hid hbel
                     replace hgrow := Lib.hid hgrow
                     have OW4 := Lib.hid hown
                     clear hbel hown)
                  | (refine tstep_xapp (w := wr) rfl (.tmp 118) (.tmp 122) rfl ⟨0, g⟩ (0 + k2) _ _ _ ([] ++ ys.take k2) (ys.drop (k2 + 1)) (some ⟨bb, oo, none⟩) rfl OW4.out rfl (SD.out _) ?hm (fun h => by cases h) ?hb3 ?hb2 ?_
                     case hb2 => ((repeat' (first | (with_reducible exact XC.out) | (with_reducible exact Below.refl _ _) | (refine Below.drew ?_) | (refine Below.alloc ?_ ?_ _) | (refine Below.setCell ?_ ?_ _))); all_goals (first | exact Nat.le_refl _ | exact XC.out.size | omega | (simp; done) | (simp; omega) | (have hs := XC.out.size; simp; omega)))
                     case hm => (rw [List.length_drop]; have := HYL.out; omega)
                     case hb3 => omega
                     intro v5 w5 hown hgrow5 hbel
                     have XC := Lib.hid hbel
                     obtain ⟨A5, cap5, rfl, hl5, hR5⟩ := Rx.of hown
                     have R5 := Lib.hid hR5
                     obtain ⟨k5, hk5⟩ : ∃ k5, k5 = (([] ++ ys.take k2) ++ ys.drop (k2 + 1)).length := ⟨_, rfl⟩
                     have K5 := Lib.hid hk5
                     rw [← hk5]
                     replace hgrow5 := Lib.hid hgrow5
                     clear hown hl5 hR5 hbel hk5))
                all_goals
                  have L5 := Lib.hid (hL3.out.below XC.out)
                  have hlen5 : Hid (([] ++ ys.take k2 ++ ys.drop (k2 + 1)).length = gk) := Lib.hid (by rw [hyer.out, List.length_map, HER.out])
                  obtain rfl : k5 = gk := K5.out.trans hlen5.out
                  have S5 : Hid (Sx w5 ⟨0, g⟩ A5 ((T1.ns.erase x).map (32 * ·))) := Lib.hid (by
                    have := R5.out.sx (B := ⟨0, g⟩) (fun k hk => ⟨Nat.zero_le _, by have := HG2.out; show k ≠ g; omega⟩)
                    rwa [hyer.out] at this)
                  have C5 : Hid (k5 ≤ cap5 ∧ (A5 = none → cap5 = 0)) := Lib.hid (by
                    have := R5.out.caps
                    rw [hlen5.out] at this
                    exact ⟨this.1, this.2.1⟩)
                  go_wp2_with (go_at_call 13; (with_reducible refine (DEL.out _ L5.out).mono ?_); rintro e wd ⟨rfl, ⟨T2, hL2, hn2⟩, hf2⟩; have L6 := Lib.hid hL2; have N2 := Lib.hid hn2; have S6 := Lib.hid (S5.out.keep hf2.kx); clear hL2 hn2 hf2)
                  go_wp2_with (first
                    | (go_at_call 13; (with_reducible refine (DNO.out _ _ L6.out N2.out).mono ?_); rintro e we ⟨rfl, hb⟩; have L7 := Lib.hid (L6.out.below hb); have S7 := Lib.hid (S6.out.keep (Kx.below hb)); clear hb)
                    | (go_at_call 27; (with_reducible refine (WIP.out _ _ L7.out).mono ?_); rintro e wf ⟨rfl, hL, hf⟩; have L8 := Lib.hid hL; have S8 := Lib.hid (S7.out.keep hf.kx); clear hL hf))
                  have hkn := HKN.out
                  go_roundg k5
                  case measure => omega
                  case rel => exact ⟨T2, A5, cap5, _, rfl, by omega, C5.out.1, Lib.hid (by rw [N2.out, HER.out]), Lib.hid C5.out.2, Lib.hid (by have := S8.out; rwa [← N2.out] at this), L8, Lib.hid (by have := HZ4.out; rwa [← N2.out] at this)⟩
              · have hle : (k2 : Int) + 1 ≤ (cap3 : Int) := by omega
                have hlec : k2 + 1 ≤ cap3 := by omega
                have SD0 : Hid (Sx wr ⟨0, g⟩ (some ⟨bb, oo + (k2 + 1), none⟩) (ys.drop (k2 + 1))) := Lib.hid (hS3.out.drop (k2 + 1))
                go_wp2_with fail
                go_region_held_law (fun _ => True) (trivial) (first
                  | (refine tstep_xapp (w := wr) rfl (.tmp 114) (.tmp 117) rfl ⟨0, g⟩ 0 _ _ _ [] (ys.take k2) (some ⟨bb, oo, none⟩) rfl LIT0.out rfl ((hS3.out.take k2).keep (Kx.below ?hb1)) ?hm (fun h => by cases h) ?hb3 ?hb2 ?_
                     case hb1 => ((repeat' (first | (with_reducible exact XC.out) | (with_reducible exact Below.refl _ _) | (refine Below.drew ?_) | (refine Below.alloc ?_ ?_ _) | (refine Below.setCell ?_ ?_ _))); all_goals (first | exact Nat.le_refl _ | exact XC.out.size | omega | (simp; done) | (simp; omega) | (have hs := XC.out.size; simp; omega)))
                     case hb2 => ((repeat' (first | (with_reducible exact XC.out) | (with_reducible exact Below.refl _ _) | (refine Below.drew ?_) | (refine Below.alloc ?_ ?_ _) | (refine Below.setCell ?_ ?_ _))); all_goals (first | exact Nat.le_refl _ | exact XC.out.size | omega | (simp; done) | (simp; omega) | (have hs := XC.out.size; simp; omega)))
                     case hm => (rw [List.length_take]; have := HYL.out; omega)
                     case hb3 => omega
                     intro v4 w4 hown hgrow hbel
                     have XC := Lib.hid hbel
                     replace hgrow := Lib.hid hgrow
                     have OW4 := Lib.hid hown
                     clear hbel hown)
                  | (refine tstep_xapp (w := wr) rfl (.tmp 118) (.tmp 122) rfl ⟨0, g⟩ (0 + k2) _ _ _ ([] ++ ys.take k2) (ys.drop (k2 + 1)) (some ⟨bb, oo + (k2 + 1), none⟩) rfl OW4.out rfl (SD0.out.keep (Kx.below ?hb1)) ?hm (fun h => by cases h) ?hb3 ?hb2 ?_
                     case hb1 => ((repeat' (first | (with_reducible exact XC.out) | (with_reducible exact Below.refl _ _) | (refine Below.drew ?_) | (refine Below.alloc ?_ ?_ _) | (refine Below.setCell ?_ ?_ _))); all_goals (first | exact Nat.le_refl _ | exact XC.out.size | omega | (simp; done) | (simp; omega) | (have hs := XC.out.size; simp; omega)))
                     case hb2 => ((repeat' (first | (with_reducible exact XC.out) | (with_reducible exact Below.refl _ _) | (refine Below.drew ?_) | (refine Below.alloc ?_ ?_ _) | (refine Below.setCell ?_ ?_ _))); all_goals (first | exact Nat.le_refl _ | exact XC.out.size | omega | (simp; done) | (simp; omega) | (have hs := XC.out.size; simp; omega)))
                     case hm => (rw [List.length_drop]; have := HYL.out; omega)
                     case hb3 => omega
                     intro v5 w5 hown hgrow5 hbel
                     have XC := Lib.hid hbel
                     obtain ⟨A5, cap5, rfl, hl5, hR5⟩ := Rx.of hown
                     have R5 := Lib.hid hR5
                     obtain ⟨k5, hk5⟩ : ∃ k5, k5 = (([] ++ ys.take k2) ++ ys.drop (k2 + 1)).length := ⟨_, rfl⟩
                     have K5 := Lib.hid hk5
                     rw [← hk5]
                     replace hgrow5 := Lib.hid hgrow5
                     clear hown hl5 hR5 hbel hk5))
                all_goals
                  have L5 := Lib.hid (hL3.out.below XC.out)
                  have hlen5 : Hid (([] ++ ys.take k2 ++ ys.drop (k2 + 1)).length = gk) := Lib.hid (by rw [hyer.out, List.length_map, HER.out])
                  obtain rfl : k5 = gk := K5.out.trans hlen5.out
                  have S5 : Hid (Sx w5 ⟨0, g⟩ A5 ((T1.ns.erase x).map (32 * ·))) := Lib.hid (by
                    have := R5.out.sx (B := ⟨0, g⟩) (fun k hk => ⟨Nat.zero_le _, by have := HG2.out; show k ≠ g; omega⟩)
                    rwa [hyer.out] at this)
                  have C5 : Hid (k5 ≤ cap5 ∧ (A5 = none → cap5 = 0)) := Lib.hid (by
                    have := R5.out.caps
                    rw [hlen5.out] at this
                    exact ⟨this.1, this.2.1⟩)
                  go_wp2_with (go_at_call 13; (with_reducible refine (DEL.out _ L5.out).mono ?_); rintro e wd ⟨rfl, ⟨T2, hL2, hn2⟩, hf2⟩; have L6 := Lib.hid hL2; have N2 := Lib.hid hn2; have S6 := Lib.hid (S5.out.keep hf2.kx); clear hL2 hn2 hf2)
                  go_wp2_with (first
                    | (go_at_call 13; (with_reducible refine (DNO.out _ _ L6.out N2.out).mono ?_); rintro e we ⟨rfl, hb⟩; have L7 := Lib.hid (L6.out.below hb); have S7 := Lib.hid (S6.out.keep (Kx.below hb)); clear hb)
                    | (go_at_call 27; (with_reducible refine (WIP.out _ _ L7.out).mono ?_); rintro e wf ⟨rfl, hL, hf⟩; have L8 := Lib.hid hL; have S8 := Lib.hid (S7.out.keep hf.kx); clear hL hf))
                  have hkn := HKN.out
                  go_roundg k5
                  case measure => omega
                  case rel => exact ⟨T2, A5, cap5, _, rfl, by omega, C5.out.1, Lib.hid (by rw [N2.out, HER.out]), Lib.hid C5.out.2, Lib.hid (by have := S8.out; rwa [← N2.out] at this), L8, Lib.hid (by have := HZ4.out; rwa [← N2.out] at this)⟩
end Go.Proofs.YtiacclmapicmdaaDoor
