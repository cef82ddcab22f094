/- The contract of Read. Conditions: the tables lie in their blocks; the text has fewer than 4294967281 bytes. -/
import Derived.Test.YtcedjjolikmbbaaDoorISplit
import Derived.Deep.CutRange
import Derived.Laws.ResultCell
namespace Go.Proofs.YtcedjjolikmbbaaDoor
open Go.RowKit Go.Maps Go.WideMaps
set_option maxRecDepth 100000
set_option maxHeartbeats 4000000

/-- Read's two answers. -/
def rdV (s : List UInt8) : In := (rd s).getD in0
def rdE (s : List UInt8) : Nat := if (rd s).isSome = true then 0 else 3
abbrev zI : Obj := .cells #[.int .u8 0, .int .u8 0, .int .u8 0, .int .u8 0, .int .u32 0] 24
theorem look_run {w : World} {b n : Nat} {D : DataW Unit} {x : List UInt8} (O : w.ownsMap Tryd.prog 9 inE b n D) (F : Fm D (feP 16)) (hx : x.length ≤ 4294967295) :
    (Instr.lookup 68 (.map (some b)) (.string (st x)) true).run Tryd.prog w = .ok (.tuple #[iv ((look x).getD in0), .bool (look x).isSome]) w := by
  obtain ⟨v, ps, hrun, hv⟩ := O.look_ok lawS Tryd.underlying68 (zeroN w) (inE_mk in0) (kL_of hx)
  rw [F.at_] at hv
  rw [hrun, F.has, inE_inv hv]
  rfl
theorem only5 (w : World) (g : Nat) (u0 u1 u2 u3 u4 : Value) : Only g w (((((w.setCell ⟨g, 0, none⟩ u0).setCell ⟨g, 1, none⟩ u1).setCell ⟨g, 2, none⟩ u2).setCell ⟨g, 3, none⟩ u3).setCell ⟨g, 4, none⟩ u4) :=
  ((((Only.setCellAt _ _ _ _).trans (Only.setCellAt _ _ _ _)).trans (Only.setCellAt _ _ _ _)).trans (Only.setCellAt _ _ _ _)).trans (Only.setCellAt _ _ _ _)
theorem infoI : (Tryd.prog.info? 24).map (·.size) = some 5 := by kernel_rfl
theorem load_insn {w : World} {g : Nat} {a b c d e : Value} (hb : Blk w g 24 #[a, b, c, d, e]) : (loadVar 24 ⟨g, 0, none⟩).run Tryd.prog w = .ok (.agg #[a, b, c, d, e]) w :=
  run_loadVar_row w g 24 24 _ _ _ hb Tryd.underlying24 rfl infoI
theorem res_insn {fn : Func} {p u : Tmp} (h : fn.results = #[.cell p 24, .tmp u]) {tmps : Array Value} {w : World} {g : Nat} {a b c d e : Value} (hp : tmps.getD p undef = .pointer (some ⟨g, 0, none⟩)) (hb : Blk w g 24 #[a, b, c, d, e]) :
    (results fn tmps).run Tryd.prog w = .ok (.tuple #[.agg #[a, b, c, d, e], tmps.getD u undef]) w := by
  rw [results_cell_tmp h, hp]
  simp [asAddr, Result.andThen, load_insn hb]
theorem Wd.tail {w : World} {g o : Nat} {y : List UInt8} {ws : List (List UInt8)} (h : Wd w g (some ⟨g, o, none⟩) (y :: ws)) : Wd w g (some ⟨g, o + 1, none⟩) ws := fun _ => by
  obtain ⟨o', e, hc⟩ := h (by simp)
  simp only [Option.some.injEq, Addr.mk.injEq, and_true, true_and] at e
  subst e
  refine ⟨o + 1, rfl, fun k y' hy => ?_⟩
  have := hc (k + 1) y' (by simpa using hy)
  rw [show o + 1 + k = o + (k + 1) by omega]
  exact this
theorem Wd.cut1 {w : World} {g o m : Nat} {y : List UInt8} {ws : List (List UInt8)} (h : Wd w g (some ⟨g, o, none⟩) (y :: ws)) (hm : ws.length = m) : Wd w g (if m = 0 then some ⟨g, o, none⟩ else some ⟨g, o + 1, none⟩) ws := fun hn => by
  rw [if_neg (fun e => hn (List.length_eq_zero_iff.1 (hm.trans e)))]
  exact h.tail hn
theorem Wd.only {w w' : World} {g g' : Nat} {A : Option Addr} {ws : List (List UInt8)} (h : Wd w g A ws) (ho : Only g' w w') (hg : g ≠ g') : Wd w' g A ws := fun hn => by
  obtain ⟨o, e, hc⟩ := h hn
  exact ⟨o, e, fun k y hy => (World.cell?_of_block (ho.block g hg)).trans (hc k y hy)⟩
section
variable {w : World}
theorem reader1_s (T : Hid (Tabs w)) (g : Nat) (s : Value) (K : Hid (Blk w g 81 #[.int .u32 1, .int .u32 22, s])) (x : List UInt8) :
    Calls Tryd.prog 43 #[.string (st x), .pointer (some ⟨g, 0, none⟩)] w fun e w' => e = .returned (rv (rdHelp x 1 22)) ∧ w' = w := reader1_any T g s K x
theorem reader2_s (T : Hid (Tabs w)) (f g g2 : Nat) (hf : f < 10) (h9 : f ≠ 9) (l h : Value) (K : Hid (Blk w g 81 #[l, h, sv (signN f)])) (K2 : Hid (Blk w g2 5 #[.int .u8 (f : Int)])) (x : List UInt8) (hx : x.length ≤ 4294967295) :
    Calls Tryd.prog 44 #[.string (st x), .pointer (some ⟨g, 0, none⟩), .pointer (some ⟨g2, 0, none⟩)] w fun e w' => e = .returned (rv (rw f x)) ∧ Below w.heap.size w w' := reader2_any T f g g2 hf h9 l h K K2 x hx
theorem read_any (T : Hid (Tabs w)) (s : List UInt8) (hs : s.length < 4294967281) : Calls Tryd.prog 15 #[sv s] w fun e w' => e = .returned (.tuple #[iv (rdV s), .int .i64 (rdE s : Int)]) ∧ Below w.heap.size w w' := by
  obtain ⟨x, t, hx⟩ := sp_cons s
  have hsl := sp_len s
  rw [hx] at hsl
  have hlx : x.length ≤ 4294967295 := by have := hsl.1 x (List.mem_cons_self ..); omega
  have HT := Lib.hid (show ∀ y ∈ t, y.length ≤ 4294967295 from fun y hy => by have := hsl.1 y (List.mem_cons_of_mem _ hy); omega)
  have htl : t.length ≤ 4294967295 := by have := hsl.2; simp only [List.length_cons] at this; omega
  obtain ⟨w0, hw0⟩ : ∃ w0, w0 = w.alloc zI := ⟨_, rfl⟩
  have X0 := Lib.hid (show Below w.heap.size w w0 by rw [hw0]; go_grown)
  have K0 := Lib.hid (show Blk w0 w.heap.size 24 #[.int .u8 0, .int .u8 0, .int .u8 0, .int .u8 0, .int .u32 0] by rw [hw0]; exact Blk.new _ _ _)
  have T0 := Lib.hid (T.out.out X0.out)
  have SP := Lib.hid (split_any T0 s hs)
  rw [hx] at SP
  simp only [List.length_cons] at SP
  have HW0 := Lib.hid hw0
  have LR := Lib.hid fun (W : World) (b n : Nat) (D : DataW Unit) (O : W.ownsMap Tryd.prog 9 inE b n D) (F : Fm D (feP 16)) => look_run O F hlx
  have hg0 : w0.heap.size = w.heap.size + 1 := by rw [hw0]; simp
  have HG0 := Lib.hid hg0
  have HX := Lib.hid hx
  obtain ⟨i, hi⟩ : ∃ i, (look x).getD in0 = i := ⟨_, rfl⟩
  obtain ⟨kn, hkn⟩ : ∃ kn, (look x).isSome = kn := ⟨_, rfl⟩
  rw [hi, hkn] at LR
  have HI := Lib.hid hi
  have HKN := Lib.hid hkn
  obtain ⟨op, a, b, c, im⟩ := i
  simp only [iv] at LR
  clear hw0 hx hg0 hsl hi hkn
  unfold sv
  go_enter Tryd.func15, Tryd.ntmps15
  go_upto_region 2 with (go_at_call 33; rw [← HW0.out]; refine SP.out.mono ?_; rintro e w1 ⟨rfl, hk1, hb1⟩; have K1 := Lib.hid hk1; have X1 := Lib.hid (X0.out.trans (hb1.mono X0.out.size)); have K01 := Lib.hid (K0.out.below hb1 K0.out.lt); have c0 : w1.drew.cell? ⟨w0.heap.size, 0, none⟩ = some (.string (st x)) := hk1.cell 0; clear hk1 hb1)
  have g1 := K1.out.lt
  have c2 : (w1.alloc zI).drew.cell? ⟨w0.heap.size, 0, none⟩ = some (.string (st x)) := (K1.out.alloc zI).cell 0
  have D1 := Lib.hid (show Below w.heap.size w w1.drew from X1.out.drew)
  have D2 := Lib.hid (show Below w.heap.size w (w1.alloc zI).drew from (X1.out.alloc X1.out.size _).drew)
  have hne : w0.heap.size ≠ w1.heap.size := by omega
  have BZ := Lib.hid (show Blk (w1.alloc zI).drew w1.heap.size 24 #[.int .u8 0, .int .u8 0, .int .u8 0, .int .u8 0, .int .u32 0] from Blk.new _ _ _)
  have TD1 := Lib.hid (T.out.out D1.out)
  have TD2 := Lib.hid (T.out.out D2.out)
  have gs := X1.out.size
  have gw := K01.out.lt
  go_cut [5, 6] from 13 to 20 (fun v5 v6 wc => ∃ g5 : Nat, w0.heap.size < g5 ∧ v5 = .pointer (some ⟨g5, 0, none⟩) ∧ v6 = .bool kn ∧ Hid (Blk wc g5 24 #[.int .u8 (op : Int), .int .u8 (a : Int), .int .u8 (b : Int), .int .u8 (c : Int), .int .u32 (im : Int)]) ∧ Hid (Blk wc w.heap.size 24 #[.int .u8 0, .int .u8 0, .int .u8 0, .int .u8 0, .int .u32 0]) ∧ Hid (Blk wc w0.heap.size 9 (List.map sv (x :: t)).toArray) ∧ Hid (Below w.heap.size w wc))
  case first =>
    go_region_held3 (fun w' => w'.cell? ⟨w0.heap.size, 0, none⟩ = some (.string (st x))) (first | (with_reducible exact c0) | (with_reducible exact c2) | (with_reducible exact E1.out) | (with_reducible exact E3.out _) | (with_reducible refine (World.cell?_of_block ((only5 _ _ _ _ _ _ _).block _ hne)).trans ?_; with_reducible exact E1.out) | go_keep) (first
      | (go_at_call 34; (with_reducible refine (firstWords_any TD1).mono ?_); rintro e w4 ⟨⟨q, n, D, rfl, ho, hf⟩, h4⟩; have O4 := Lib.hid ho; have hrun := LR.out _ _ _ _ ho hf; have hrun3 := LR.out _ _ _ _ (ho.alloc zI) hf; have E1 := Lib.hid ((h4.cell (p := ⟨w0.heap.size, 0, none⟩) g1).trans c0); have E3 := Lib.hid (show ∀ o, (w4.alloc o).cell? ⟨w0.heap.size, 0, none⟩ = some (.string (st x)) from fun o => (World.cell?_alloc_some w4 _ _ (by rw [E1.out]; rfl)).trans E1.out); have X4 := Lib.hid (D1.out.trans (h4.mono D1.out.size)); have K04 := Lib.hid (Blk.below (w := w1.drew) K01.out h4 gw); have K14 := Lib.hid (Blk.below (w := w1.drew) K1.out h4 g1); have m4 : w1.heap.size ≤ w4.heap.size := h4.size; clear ho hf h4)
      | (go_at_call 34; (with_reducible refine (firstWords_any TD2).mono ?_); rintro e w4 ⟨⟨q, n, D, rfl, ho, hf⟩, h4⟩; have O4 := Lib.hid ho; have hrun := LR.out _ _ _ _ ho hf; have X4 := Lib.hid (D2.out.trans (h4.mono D2.out.size)); have K04 := Lib.hid (Blk.below (w := (w1.alloc zI).drew) (K01.out.alloc zI) h4 (by show w.heap.size < (w1.alloc zI).heap.size; simp; omega)); have K14 := Lib.hid (Blk.below (w := (w1.alloc zI).drew) (K1.out.alloc zI) h4 (by show w0.heap.size < (w1.alloc zI).heap.size; simp; omega)); have BN := Lib.hid (BZ.out.below h4 (by show w1.heap.size < (w1.alloc zI).heap.size; simp)); have y0 := BN.out.frozen 0; have y1 := BN.out.frozen 1; have y2 := BN.out.frozen 2; have y3 := BN.out.frozen 3; have y4 := BN.out.frozen 4; have q0 := BN.out.cell 0; have q1 := BN.out.cell 1; have q2 := BN.out.cell 2; have q3 := BN.out.cell 3; have q4 := BN.out.cell 4; simp at q0 q1 q2 q3 q4; have E1 := Lib.hid ((h4.cell (p := ⟨w0.heap.size, 0, none⟩) (by show w0.heap.size < (w1.alloc zI).heap.size; simp; omega)).trans c2); clear ho hf h4))
    · go_wp2_with fail
      go_meet
      exact ⟨_, by omega, rfl, rfl, Blk.new _ _ _, K04.out.alloc _, K14.out.alloc _, X4.out.alloc X4.out.size _⟩
    · go_wp2_with fail
      go_meet
      exact ⟨_, by omega, rfl, rfl, Blk.new _ _ _, K04.out.alloc _, K14.out.alloc _, X4.out.alloc X4.out.size _⟩
    · go_wp2_with fail
      go_meet
      exact ⟨_, by omega, rfl, rfl, put5 BN.out _ _ _ _ _, K04.out.only (only5 _ _ _ _ _ _ _) (by omega), K14.out.only (only5 _ _ _ _ _ _ _) (by omega), below5 X4.out (by omega) _ _ _ _ _⟩
  case rest =>
  obtain ⟨g5, hg5, rfl, rfl, K5, K05, K15, X5⟩ := hcut
  clear c0 c2 D1 D2 BZ TD1 TD2 hne K0 K1 K01 X0 T0 SP LR X1 gs gw
  have gx := X5.out.size
  have gx0 := K15.out.lt
  cases kn
  · have hl : look x = none := by
      have := HKN.out
      cases h : look x with
      | none => rfl
      | some i => rw [h] at this; cases this
    have hr : rd s = none := by unfold rd; rw [HX.out]; simp only; rw [hl]
    have HV := Lib.hid (show rdV s = in0 by unfold rdV; rw [hr]; rfl)
    have HE := Lib.hid (show rdE s = 3 by unfold rdE; rw [hr]; rfl)
    obtain ⟨q0, q1, q2, q3, q4, y0, y1, y2, y3, y4⟩ := ten K05.out
    have XF := Lib.hid (below5 X5.out (Nat.le_refl _) (.int .u8 0) (.int .u8 0) (.int .u8 0) (.int .u8 0) (.int .u32 0))
    have KF := Lib.hid (put5 K05.out (.int .u8 0) (.int .u8 0) (.int .u8 0) (.int .u8 0) (.int .u32 0))
    clear hl hr
    go_wp2_with fail
    refine bodyPost_ret (res_insn rfl rfl KF.out) rfl ?_
    rw [HV.out, HE.out]
    exact ⟨rfl, XF.out⟩
  · have hl : look x = some ⟨op, a, b, c, im⟩ := by
      have := HKN.out
      have h2 := HI.out
      cases h : look x with
      | none => rw [h] at this; cases this
      | some i => rw [h] at h2; simp at h2; rw [h2]
    obtain ⟨⟨ho1, ho2⟩, rfl, rfl, hc11, rfl⟩ := look_in hl
    simp only at ho1 ho2 hc11
    have HR := Lib.hid (show rd s = rdL (rowN op) ⟨op, 0, 0, c, 0⟩ t by unfold rd; rw [HX.out]; simp only; rw [hl])
    obtain ⟨p0, f0, p1, f1, p2, f2, p3, f3, HRow, ⟨y0, z0, y1, z1, y2, z2, y3, z3⟩, r0, s0, r1, s1, r2, s2, r3, s3⟩ := (T.out.out X5.out).row op (by omega)
    have q1 : (op : Int) < 16 := by omega
    have bw : 14 ≤ w.heap.size := T.out.size
    have d0 := K5.out.cell 0
    simp at d0
    have HWd0 := Lib.hid (show Wd wc w0.heap.size (if t.length = 0 then some ⟨w0.heap.size, 0, none⟩ else some ⟨w0.heap.size, 1, none⟩) t from fun hn => ⟨1, by rw [if_neg (by simpa using hn)], fun k y hy => by
      have := K15.out.cell (1 + k)
      rw [this]
      simp [Nat.add_comm 1 k, hy]⟩)
    have HIX := Lib.hid (show ∀ (j : Nat), j < 4 → ∃ p f : Nat, p < 5 ∧ f < 10 ∧ ([(p0, f0), (p1, f1), (p2, f2), (p3, f3)].drop j = (p, f) :: [(p0, f0), (p1, f1), (p2, f2), (p3, f3)].drop (j + 1)) ∧ ∀ W, (Instr.index 53 (.agg #[.int .u8 (p0 : Int), .int .u8 (f0 : Int), .int .u8 (p1 : Int), .int .u8 (f1 : Int), .int .u8 (p2 : Int), .int .u8 (f2 : Int), .int .u8 (p3 : Int), .int .u8 (f3 : Int)]) (.int .i64 (j : Int))).run Tryd.prog W = .ok (.agg #[.int .u8 (p : Int), .int .u8 (f : Int)]) W from fun j hj => by
      rcases (show j = 0 ∨ j = 1 ∨ j = 2 ∨ j = 3 by omega) with rfl | rfl | rfl | rfl
      · exact ⟨p0, f0, y0, z0, rfl, fun W => run_ix0 ..⟩
      · exact ⟨p1, f1, y1, z1, rfl, fun W => run_ix1 ..⟩
      · exact ⟨p2, f2, y2, z2, rfl, fun W => run_ix2 ..⟩
      · exact ⟨p3, f3, y3, z3, rfl, fun W => run_ix3 ..⟩)
    rw [HRow.out] at HR
    have HL := Lib.hid (show t.length = t.length from rfl)
    obtain ⟨n, hn⟩ : ∃ n, t.length = n := ⟨_, rfl⟩
    rw [hn] at HWd0 htl ⊢
    replace HL := Lib.hid hn
    clear hl hn y0 z0 y1 z1 y2 z2 y3 z3
    have AB := Lib.hid (show Wd wc w0.heap.size (if n = 0 then some ⟨w0.heap.size, 0, none⟩ else some ⟨w0.heap.size, 1, none⟩) t from HWd0.out)
    go_upto_region 5 with fail
    go_cut [4] from 12 to 25 (fun v wx => ∃ A, v = .slice A n n ∧ Hid (Wd wc w0.heap.size A t) ∧ wx = wc)
    case first =>
      go_wp2_with fail
      · have HN0 := Lib.hid (show n = 0 by omega)
        go_meet
        refine ⟨_, by rw [HN0.out], ?_, rfl⟩
        have := AB.out
        rw [if_pos HN0.out] at this
        exact Lib.hid this
      · have HN0 := Lib.hid (show ¬ n = 0 by omega)
        go_meet
        refine ⟨_, rfl, ?_, rfl⟩
        have := AB.out
        rw [if_neg HN0.out] at this
        exact Lib.hid this
    case rest =>
    obtain ⟨A, rfl, HWd1, rfl⟩ := hcut
    clear AB HWd0
    go_wp2_with fail
    clear r0 s0 r1 s1 r2 s2 r3 s3 d0
    go_loopw [4, 30] (fun v k wr => ∃ (j n : Nat) (A : Option Addr) (ws : List (List UInt8)) (cur : In), j ≤ 4 ∧ n ≤ 4294967295 ∧ v = .slice A n n ∧ k = .int .i64 j ∧ Hid (ws.length = n) ∧ Hid (∀ y ∈ ws, y.length ≤ 4294967295) ∧ Hid (Wd wr w0.heap.size A ws) ∧ Hid (rd s = rdL ([(p0, f0), (p1, f1), (p2, f2), (p3, f3)].drop j) cur ws) ∧ Hid (Blk wr g5 24 #[.int .u8 (cur.op : Int), .int .u8 (cur.a : Int), .int .u8 (cur.b : Int), .int .u8 (cur.c : Int), .int .u32 (cur.im : Int)]) ∧ Hid (Blk wr w.heap.size 24 #[.int .u8 0, .int .u8 0, .int .u8 0, .int .u8 0, .int .u32 0]) ∧ Hid (w0.heap.size < wr.heap.size) ∧ Hid (Below w.heap.size w wr)) (fun _ k _ => 4 - (intOf k).toNat)
    case atStart => exact ⟨0, n, _, t, ⟨op, 0, 0, c, 0⟩, by omega, htl, rfl, rfl, HL.out, HT.out, HWd1.out, HR.out, K5.out, K05.out, gx0, X5.out⟩
    case round =>
      clear K5 K05 K15 X5 HWd1 HR gx gx0 HL HT HI htl
      obtain ⟨j, n, A, ws, ⟨op, a, b, c, im⟩, hj, htl, rfl, rfl, HL, HT, HWd, HR, K5, K05, GX0, HW⟩ := hrel
      simp only at K5
      have gx0 := GX0.out
      have hws := HW.out.size
      have l5 : g5 < wr.heap.size := K5.out.lt
      have l0 : w.heap.size < wr.heap.size := K05.out.lt
      by_cases hj4 : j < 4
      · obtain ⟨p, f, hp, hf, hdr, hix⟩ := HIX.out j hj4
        rw [hdr] at HR
        have hj4' : (j : Int) < 4 := by omega
        have wj : IntKind.i64.wrap ((j : Int) + 1) = ((j + 1 : Nat) : Int) := by rw [show (j : Int) + 1 = ((j + 1 : Nat) : Int) by omega]; exact w64 _ (by omega)
        clear hdr
        obtain ⟨w1, hw1⟩ : ∃ w1, w1 = wr.alloc (Obj.cells #[.int .u8 (p : Int), .int .u8 (f : Int)] 52) := ⟨_, rfl⟩
        have KO := Lib.hid (show Blk w1 wr.heap.size 52 #[.int .u8 (p : Int), .int .u8 (f : Int)] by rw [hw1]; exact Blk.new _ _ _)
        have L1 := Lib.hid (show Below wr.heap.size wr w1 by rw [hw1]; go_grown)
        have X1 := Lib.hid (HW.out.trans (L1.out.mono hws))
        have K51 := Lib.hid (K5.out.below L1.out l5)
        have K01 := Lib.hid (K05.out.below L1.out l0)
        have V1 := Lib.hid (HWd.out.below L1.out gx0)
        have SZ := Lib.hid (show w1.heap.size = wr.heap.size + 1 by rw [hw1]; simp)
        have HW1 := Lib.hid hw1
        clear hw1
        cases hwd : hw p f
        · have HD := Lib.hid hwd
          have HR2 := Lib.hid (show rd s = rdL ([(p0, f0), (p1, f1), (p2, f2), (p3, f3)].drop (j + 1)) ⟨op, a, b, c, im⟩ ws by rw [HR.out]; simp [rdL, hwd])
          clear hwd
          go_wp2_with (go_at_call 23; rw [← HW1.out]; refine (hasWord_any p f).mono ?_; rintro e w2 ⟨rfl, hb2⟩; rw [HD.out]; have X2 := Lib.hid (X1.out.trans (hb2.mono X1.out.size)); have K52 := Lib.hid (K51.out.below hb2 K51.out.lt); have K02 := Lib.hid (K01.out.below hb2 K01.out.lt); have V2 := Lib.hid (V1.out.below hb2 (by rw [SZ.out]; omega)); have G2 := Lib.hid (show w0.heap.size < w2.heap.size by have := hb2.size; rw [SZ.out] at this; omega); clear hb2)
          go_roundw
          case rel => exact ⟨j + 1, n, A, ws, ⟨op, a, b, c, im⟩, by omega, htl, rfl, by go_num, HL.out, HT.out, V2.out, HR2.out, K52.out, K02.out, G2.out, X2.out⟩
          case measure => simp [intOf]; omega
        · have HD := Lib.hid hwd
          cases ws with
          | nil =>
            have hn0 := HL.out
            simp only [List.length_nil] at hn0
            subst hn0
            have hr : rd s = none := by rw [HR.out]; simp [rdL, hwd]
            have HV := Lib.hid (show rdV s = in0 by unfold rdV; rw [hr]; rfl)
            have HE := Lib.hid (show rdE s = 3 by unfold rdE; rw [hr]; rfl)
            clear hwd hr
            go_wp2_with (go_at_call 23; rw [← HW1.out]; refine (hasWord_any p f).mono ?_; rintro e w2 ⟨rfl, hb2⟩; rw [HD.out]; have X2 := Lib.hid (X1.out.trans (hb2.mono X1.out.size)); have K02 := Lib.hid (K01.out.below hb2 K01.out.lt); obtain ⟨q0, q1, q2, q3, q4, y0, y1, y2, y3, y4⟩ := ten K02.out; clear hb2)
            refine bodyPost_ret (res_insn rfl rfl (put5 K02.out (.int .u8 0) (.int .u8 0) (.int .u8 0) (.int .u8 0) (.int .u32 0))) rfl ?_
            rw [HV.out, HE.out]
            exact ⟨rfl, below5 X2.out (Nat.le_refl _) (.int .u8 0) (.int .u8 0) (.int .u8 0) (.int .u8 0) (.int .u32 0)⟩
          | cons y ws =>
            have hn0 := HL.out
            simp only [List.length_cons] at hn0
            obtain ⟨m, rfl⟩ : ∃ m, n = m + 1 := ⟨ws.length, hn0.symm⟩
            have HLm := Lib.hid (show ws.length = m by omega)
            clear hn0 hwd HL
            obtain ⟨o, rfl, hco⟩ := V1.out (by simp)
            have C1 := Lib.hid (show w1.cell? ⟨w0.heap.size, o, none⟩ = some (.string (st y)) from hco 0 y rfl)
            have hly := HT.out y (List.mem_cons_self ..)
            have HT2 := Lib.hid fun z (hz : z ∈ ws) => HT.out z (List.mem_cons_of_mem _ hz)
            clear hco
            by_cases h9 : f = 9
            · have N9 := Lib.hid h9
              cases hrw : rw f y with
              | none =>
                have hr : rd s = none := by rw [HR.out]; simp [rdL, HD.out, hrw]
                have HV := Lib.hid (show rdV s = in0 by unfold rdV; rw [hr]; rfl)
                have HE := Lib.hid (show rdE s = 3 by unfold rdE; rw [hr]; rfl)
                have HRW := Lib.hid (show rdHelp y 1 22 = none from by have := hrw; unfold rw at this; rwa [if_pos h9] at this)
                clear hr hrw h9
                go_wp2_with (go_at_call 23; rw [← HW1.out]; refine (hasWord_any p f).mono ?_; rintro e w2 ⟨rfl, hb2⟩; rw [HD.out]; have X2 := Lib.hid (X1.out.trans (hb2.mono X1.out.size)); have K52 := Lib.hid (K51.out.below hb2 K51.out.lt); have K02 := Lib.hid (K01.out.below hb2 K01.out.lt); have KO2 := Lib.hid (KO.out.below hb2 KO.out.lt); have V2 := Lib.hid (V1.out.below hb2 (by rw [SZ.out]; omega)); have C2 := Lib.hid ((hb2.cell (p := ⟨w0.heap.size, o, none⟩) (by rw [SZ.out]; show w0.heap.size < wr.heap.size + 1; omega)).trans C1.out); have m2 : w0.heap.size < w2.heap.size := (by have := hb2.size; rw [SZ.out] at this; omega); clear hb2)
                have m1 := KO2.out.lt
                have m5 := K52.out.lt
                have m0 := K02.out.lt
                have X2d := Lib.hid (show Below w.heap.size w w2.drew from X2.out.drew)
                have T2 := Lib.hid (T.out.out X2d.out)
                have SS1 := Lib.hid (show w2.drew.cell? ⟨wr.heap.size, 1, none⟩ = some (.int .u8 (f : Int)) ∧ w2.drew.cell? ⟨w0.heap.size, o, none⟩ = some (.string (st y)) from ⟨KO2.out.cell 1, C2.out⟩)
                go_region_held3 (fun w' => w'.cell? ⟨wr.heap.size, 1, none⟩ = some (.int .u8 (f : Int)) ∧ w'.cell? ⟨w0.heap.size, o, none⟩ = some (.string (st y))) (first | (with_reducible exact SS1.out) | (with_reducible exact SS2.out) | go_keep) (first | (go_at_call 35; (with_reducible refine (readerOf_any T2 f hf).mono ?_); rintro e w3 ⟨⟨v3, rfl, hrd⟩, hb3⟩; obtain ⟨-, g9, s9, rfl, hk9⟩ := hrd.resolve_right (fun h => h.1 N9.out); have R3 := Lib.hid hk9; have SS2 := Lib.hid (And.intro ((hb3.cell (p := ⟨wr.heap.size, 1, none⟩) m1).trans SS1.out.1) ((hb3.cell (p := ⟨w0.heap.size, o, none⟩) m2).trans SS1.out.2)); have X3 := Lib.hid (X2d.out.trans (hb3.mono X2d.out.size)); have T3 := Lib.hid (T.out.out X3.out); have K53 := Lib.hid (Blk.below (w := w2.drew) K52.out hb3 m5); have K03 := Lib.hid (Blk.below (w := w2.drew) K02.out hb3 m0); have KO3 := Lib.hid (Blk.below (w := w2.drew) KO2.out hb3 m1); have V3 := Lib.hid (Wd.below (w := w2.drew) V2.out hb3 m2); have m3 : w2.heap.size ≤ w3.heap.size := hb3.size; clear hb3 hrd hk9) | (go_at_call 43; (with_reducible refine (reader1_s T3 g9 s9 R3 y).mono ?_); rintro e w4 ⟨rfl, rfl⟩; rw [HRW.out]; have X4 := X3; have K54 := K53; have K04 := K03; have KO4 := KO3; have V4 := V3; have m4 := m3))
                obtain ⟨q0, q1, q2, q3, q4, y0, y1, y2, y3, y4⟩ := ten K04.out
                have XF := Lib.hid (below5 X4.out (Nat.le_refl _) (.int .u8 0) (.int .u8 0) (.int .u8 0) (.int .u8 0) (.int .u32 0))
                have KF := Lib.hid (put5 K04.out (.int .u8 0) (.int .u8 0) (.int .u8 0) (.int .u8 0) (.int .u32 0))
                try simp only [Option.getD_none, Option.isSome_none]
                go_wp2_with fail
                refine bodyPost_ret (res_insn rfl rfl KF.out) rfl ?_
                rw [HV.out, HE.out]
                exact ⟨rfl, XF.out⟩
              | some v =>
                have HR2 := Lib.hid (show rd s = rdL ([(p0, f0), (p1, f1), (p2, f2), (p3, f3)].drop (j + 1)) (wOp ⟨op, a, b, c, im⟩ p v) ws by rw [HR.out]; simp [rdL, HD.out, hrw])
                have HRW := Lib.hid (show rdHelp y 1 22 = some v from by have := hrw; unfold rw at this; rwa [if_pos h9] at this)
                clear hrw h9
                go_wp2_with (go_at_call 23; rw [← HW1.out]; refine (hasWord_any p f).mono ?_; rintro e w2 ⟨rfl, hb2⟩; rw [HD.out]; have X2 := Lib.hid (X1.out.trans (hb2.mono X1.out.size)); have K52 := Lib.hid (K51.out.below hb2 K51.out.lt); have K02 := Lib.hid (K01.out.below hb2 K01.out.lt); have KO2 := Lib.hid (KO.out.below hb2 KO.out.lt); have V2 := Lib.hid (V1.out.below hb2 (by rw [SZ.out]; omega)); have C2 := Lib.hid ((hb2.cell (p := ⟨w0.heap.size, o, none⟩) (by rw [SZ.out]; show w0.heap.size < wr.heap.size + 1; omega)).trans C1.out); have m2 : w0.heap.size < w2.heap.size := (by have := hb2.size; rw [SZ.out] at this; omega); clear hb2)
                have m1 := KO2.out.lt
                have m5 := K52.out.lt
                have m0 := K02.out.lt
                have X2d := Lib.hid (show Below w.heap.size w w2.drew from X2.out.drew)
                have T2 := Lib.hid (T.out.out X2d.out)
                have SS1 := Lib.hid (show w2.drew.cell? ⟨wr.heap.size, 1, none⟩ = some (.int .u8 (f : Int)) ∧ w2.drew.cell? ⟨w0.heap.size, o, none⟩ = some (.string (st y)) from ⟨KO2.out.cell 1, C2.out⟩)
                go_region_held3 (fun w' => w'.cell? ⟨wr.heap.size, 1, none⟩ = some (.int .u8 (f : Int)) ∧ w'.cell? ⟨w0.heap.size, o, none⟩ = some (.string (st y))) (first | (with_reducible exact SS1.out) | (with_reducible exact SS2.out) | go_keep) (first | (go_at_call 35; (with_reducible refine (readerOf_any T2 f hf).mono ?_); rintro e w3 ⟨⟨v3, rfl, hrd⟩, hb3⟩; obtain ⟨-, g9, s9, rfl, hk9⟩ := hrd.resolve_right (fun h => h.1 N9.out); have R3 := Lib.hid hk9; have SS2 := Lib.hid (And.intro ((hb3.cell (p := ⟨wr.heap.size, 1, none⟩) m1).trans SS1.out.1) ((hb3.cell (p := ⟨w0.heap.size, o, none⟩) m2).trans SS1.out.2)); have X3 := Lib.hid (X2d.out.trans (hb3.mono X2d.out.size)); have T3 := Lib.hid (T.out.out X3.out); have K53 := Lib.hid (Blk.below (w := w2.drew) K52.out hb3 m5); have K03 := Lib.hid (Blk.below (w := w2.drew) K02.out hb3 m0); have KO3 := Lib.hid (Blk.below (w := w2.drew) KO2.out hb3 m1); have V3 := Lib.hid (Wd.below (w := w2.drew) V2.out hb3 m2); have m3 : w2.heap.size ≤ w3.heap.size := hb3.size; clear hb3 hrd hk9) | (go_at_call 43; (with_reducible refine (reader1_s T3 g9 s9 R3 y).mono ?_); rintro e w4 ⟨rfl, rfl⟩; rw [HRW.out]; have X4 := X3; have K54 := K53; have K04 := K03; have KO4 := KO3; have V4 := V3; have m4 := m3))
                obtain ⟨q0, q1, q2, q3, q4, -⟩ := ten K54.out
                have ko := KO4.out.cell 0
                simp at ko
                try simp only [Option.getD_some, Option.isSome_some]
                have m0' := K04.out.lt
                have m5' := K54.out.lt
                go_wp2_with (go_at_call 31; refine (withOperand_any ⟨op, a, b, c, im⟩ p v hp).mono ?_; rintro e w6 ⟨rfl, hb6⟩; have K56 := Lib.hid (K54.out.below hb6 m5'); have K06 := Lib.hid (K04.out.below hb6 m0'); have X6 := Lib.hid (X4.out.trans (hb6.mono X4.out.size)); have V6 := Lib.hid (V4.out.below hb6 (Nat.lt_of_lt_of_le m2 m4)); have m6 := hb6.size; obtain ⟨x0, x1, x2, x3, x4, f0', f1', f2', f3', f4'⟩ := ten K56.out; clear hb6; unfold iv)
                have hg0w : w.heap.size < w0.heap.size := by rw [HG0.out]; omega
                have lt7 : w0.heap.size < w6.heap.size := by omega
                have SZ7 := Lib.hid (show w0.heap.size < (((((w6.setCell ⟨g5, 0, none⟩ (.int .u8 ((wOp ⟨op, a, b, c, im⟩ p v).op : Int))).setCell ⟨g5, 1, none⟩ (.int .u8 ((wOp ⟨op, a, b, c, im⟩ p v).a : Int))).setCell ⟨g5, 2, none⟩ (.int .u8 ((wOp ⟨op, a, b, c, im⟩ p v).b : Int))).setCell ⟨g5, 3, none⟩ (.int .u8 ((wOp ⟨op, a, b, c, im⟩ p v).c : Int))).setCell ⟨g5, 4, none⟩ (.int .u32 ((wOp ⟨op, a, b, c, im⟩ p v).im : Int))).heap.size by rw [(only5 w6 g5 _ _ _ _ _).size]; exact lt7)
                go_roundw
                case rel => exact ⟨j + 1, m, _, ws, wOp ⟨op, a, b, c, im⟩ p v, by omega, by omega, rfl, by go_num, HLm.out, HT2.out, Lib.hid ((V6.out.cut1 HLm.out).only (only5 _ _ _ _ _ _ _) (by omega)), HR2.out, put5 K56.out _ _ _ _ _, K06.out.only (only5 _ _ _ _ _ _ _) (by omega), SZ7.out, below5 X6.out (by omega) _ _ _ _ _⟩
                case measure => simp [intOf]; omega
            · have N9 := Lib.hid h9
              cases hrw : rw f y with
              | none =>
                have hr : rd s = none := by rw [HR.out]; simp [rdL, HD.out, hrw]
                have HV := Lib.hid (show rdV s = in0 by unfold rdV; rw [hr]; rfl)
                have HE := Lib.hid (show rdE s = 3 by unfold rdE; rw [hr]; rfl)
                have HRW := Lib.hid (show rw f y = none from hrw)
                clear hr hrw h9
                go_wp2_with (go_at_call 23; rw [← HW1.out]; refine (hasWord_any p f).mono ?_; rintro e w2 ⟨rfl, hb2⟩; rw [HD.out]; have X2 := Lib.hid (X1.out.trans (hb2.mono X1.out.size)); have K52 := Lib.hid (K51.out.below hb2 K51.out.lt); have K02 := Lib.hid (K01.out.below hb2 K01.out.lt); have KO2 := Lib.hid (KO.out.below hb2 KO.out.lt); have V2 := Lib.hid (V1.out.below hb2 (by rw [SZ.out]; omega)); have C2 := Lib.hid ((hb2.cell (p := ⟨w0.heap.size, o, none⟩) (by rw [SZ.out]; show w0.heap.size < wr.heap.size + 1; omega)).trans C1.out); have m2 : w0.heap.size < w2.heap.size := (by have := hb2.size; rw [SZ.out] at this; omega); clear hb2)
                have m1 := KO2.out.lt
                have m5 := K52.out.lt
                have m0 := K02.out.lt
                have X2d := Lib.hid (show Below w.heap.size w w2.drew from X2.out.drew)
                have T2 := Lib.hid (T.out.out X2d.out)
                have SS1 := Lib.hid (show w2.drew.cell? ⟨wr.heap.size, 1, none⟩ = some (.int .u8 (f : Int)) ∧ w2.drew.cell? ⟨w0.heap.size, o, none⟩ = some (.string (st y)) from ⟨KO2.out.cell 1, C2.out⟩)
                go_region_held3 (fun w' => w'.cell? ⟨wr.heap.size, 1, none⟩ = some (.int .u8 (f : Int)) ∧ w'.cell? ⟨w0.heap.size, o, none⟩ = some (.string (st y))) (first | (with_reducible exact SS1.out) | (with_reducible exact SS2.out) | (with_reducible exact SS3.out) | go_keep) (first | (go_at_call 35; (with_reducible refine (readerOf_any T2 f hf).mono ?_); rintro e w3 ⟨⟨v3, rfl, hrd⟩, hb3⟩; obtain ⟨-, g9, g8, l9, h9, rfl, hk9, hk8⟩ := hrd.resolve_left (fun h => N9.out h.1); have R3 := Lib.hid hk9; have R4 := Lib.hid hk8; clear hk8; have SS2 := Lib.hid (And.intro ((hb3.cell (p := ⟨wr.heap.size, 1, none⟩) m1).trans SS1.out.1) ((hb3.cell (p := ⟨w0.heap.size, o, none⟩) m2).trans SS1.out.2)); have X3 := Lib.hid (X2d.out.trans (hb3.mono X2d.out.size)); have T3 := Lib.hid (T.out.out X3.out); have K53 := Lib.hid (Blk.below (w := w2.drew) K52.out hb3 m5); have K03 := Lib.hid (Blk.below (w := w2.drew) K02.out hb3 m0); have KO3 := Lib.hid (Blk.below (w := w2.drew) KO2.out hb3 m1); have V3 := Lib.hid (Wd.below (w := w2.drew) V2.out hb3 m2); have m3 : w2.heap.size ≤ w3.heap.size := hb3.size; clear hb3 hrd hk9) | (go_at_call 44; (with_reducible refine (reader2_s T3 f g9 g8 hf N9.out l9 h9 R3 R4 y hly).mono ?_); rintro e w4 ⟨rfl, hb4⟩; rw [HRW.out]; have SS3 := Lib.hid (And.intro ((hb4.cell (p := ⟨wr.heap.size, 1, none⟩) KO3.out.lt).trans SS2.out.1) ((hb4.cell (p := ⟨w0.heap.size, o, none⟩) (by show w0.heap.size < w3.heap.size; omega)).trans SS2.out.2)); have X4 := Lib.hid (X3.out.trans (hb4.mono X3.out.size)); have K54 := Lib.hid (K53.out.below hb4 K53.out.lt); have K04 := Lib.hid (K03.out.below hb4 K03.out.lt); have KO4 := Lib.hid (KO3.out.below hb4 KO3.out.lt); have V4 := Lib.hid (V3.out.below hb4 (by omega)); have m4 : w2.heap.size ≤ w4.heap.size := Nat.le_trans m3 hb4.size; clear hb4))
                obtain ⟨q0, q1, q2, q3, q4, y0, y1, y2, y3, y4⟩ := ten K04.out
                have XF := Lib.hid (below5 X4.out (Nat.le_refl _) (.int .u8 0) (.int .u8 0) (.int .u8 0) (.int .u8 0) (.int .u32 0))
                have KF := Lib.hid (put5 K04.out (.int .u8 0) (.int .u8 0) (.int .u8 0) (.int .u8 0) (.int .u32 0))
                try simp only [Option.getD_none, Option.isSome_none]
                go_wp2_with fail
                refine bodyPost_ret (res_insn rfl rfl KF.out) rfl ?_
                rw [HV.out, HE.out]
                exact ⟨rfl, XF.out⟩
              | some v =>
                have HR2 := Lib.hid (show rd s = rdL ([(p0, f0), (p1, f1), (p2, f2), (p3, f3)].drop (j + 1)) (wOp ⟨op, a, b, c, im⟩ p v) ws by rw [HR.out]; simp [rdL, HD.out, hrw])
                have HRW := Lib.hid (show rw f y = some v from hrw)
                clear hrw h9
                go_wp2_with (go_at_call 23; rw [← HW1.out]; refine (hasWord_any p f).mono ?_; rintro e w2 ⟨rfl, hb2⟩; rw [HD.out]; have X2 := Lib.hid (X1.out.trans (hb2.mono X1.out.size)); have K52 := Lib.hid (K51.out.below hb2 K51.out.lt); have K02 := Lib.hid (K01.out.below hb2 K01.out.lt); have KO2 := Lib.hid (KO.out.below hb2 KO.out.lt); have V2 := Lib.hid (V1.out.below hb2 (by rw [SZ.out]; omega)); have C2 := Lib.hid ((hb2.cell (p := ⟨w0.heap.size, o, none⟩) (by rw [SZ.out]; show w0.heap.size < wr.heap.size + 1; omega)).trans C1.out); have m2 : w0.heap.size < w2.heap.size := (by have := hb2.size; rw [SZ.out] at this; omega); clear hb2)
                have m1 := KO2.out.lt
                have m5 := K52.out.lt
                have m0 := K02.out.lt
                have X2d := Lib.hid (show Below w.heap.size w w2.drew from X2.out.drew)
                have T2 := Lib.hid (T.out.out X2d.out)
                have SS1 := Lib.hid (show w2.drew.cell? ⟨wr.heap.size, 1, none⟩ = some (.int .u8 (f : Int)) ∧ w2.drew.cell? ⟨w0.heap.size, o, none⟩ = some (.string (st y)) from ⟨KO2.out.cell 1, C2.out⟩)
                go_region_held3 (fun w' => w'.cell? ⟨wr.heap.size, 1, none⟩ = some (.int .u8 (f : Int)) ∧ w'.cell? ⟨w0.heap.size, o, none⟩ = some (.string (st y))) (first | (with_reducible exact SS1.out) | (with_reducible exact SS2.out) | (with_reducible exact SS3.out) | go_keep) (first | (go_at_call 35; (with_reducible refine (readerOf_any T2 f hf).mono ?_); rintro e w3 ⟨⟨v3, rfl, hrd⟩, hb3⟩; obtain ⟨-, g9, g8, l9, h9, rfl, hk9, hk8⟩ := hrd.resolve_left (fun h => N9.out h.1); have R3 := Lib.hid hk9; have R4 := Lib.hid hk8; clear hk8; have SS2 := Lib.hid (And.intro ((hb3.cell (p := ⟨wr.heap.size, 1, none⟩) m1).trans SS1.out.1) ((hb3.cell (p := ⟨w0.heap.size, o, none⟩) m2).trans SS1.out.2)); have X3 := Lib.hid (X2d.out.trans (hb3.mono X2d.out.size)); have T3 := Lib.hid (T.out.out X3.out); have K53 := Lib.hid (Blk.below (w := w2.drew) K52.out hb3 m5); have K03 := Lib.hid (Blk.below (w := w2.drew) K02.out hb3 m0); have KO3 := Lib.hid (Blk.below (w := w2.drew) KO2.out hb3 m1); have V3 := Lib.hid (Wd.below (w := w2.drew) V2.out hb3 m2); have m3 : w2.heap.size ≤ w3.heap.size := hb3.size; clear hb3 hrd hk9) | (go_at_call 44; (with_reducible refine (reader2_s T3 f g9 g8 hf N9.out l9 h9 R3 R4 y hly).mono ?_); rintro e w4 ⟨rfl, hb4⟩; rw [HRW.out]; have SS3 := Lib.hid (And.intro ((hb4.cell (p := ⟨wr.heap.size, 1, none⟩) KO3.out.lt).trans SS2.out.1) ((hb4.cell (p := ⟨w0.heap.size, o, none⟩) (by show w0.heap.size < w3.heap.size; omega)).trans SS2.out.2)); have X4 := Lib.hid (X3.out.trans (hb4.mono X3.out.size)); have K54 := Lib.hid (K53.out.below hb4 K53.out.lt); have K04 := Lib.hid (K03.out.below hb4 K03.out.lt); have KO4 := Lib.hid (KO3.out.below hb4 KO3.out.lt); have V4 := Lib.hid (V3.out.below hb4 (by omega)); have m4 : w2.heap.size ≤ w4.heap.size := Nat.le_trans m3 hb4.size; clear hb4))
                obtain ⟨q0, q1, q2, q3, q4, -⟩ := ten K54.out
                have ko := KO4.out.cell 0
                simp at ko
                try simp only [Option.getD_some, Option.isSome_some]
                have m0' := K04.out.lt
                have m5' := K54.out.lt
                go_wp2_with (go_at_call 31; refine (withOperand_any ⟨op, a, b, c, im⟩ p v hp).mono ?_; rintro e w6 ⟨rfl, hb6⟩; have K56 := Lib.hid (K54.out.below hb6 m5'); have K06 := Lib.hid (K04.out.below hb6 m0'); have X6 := Lib.hid (X4.out.trans (hb6.mono X4.out.size)); have V6 := Lib.hid (V4.out.below hb6 (Nat.lt_of_lt_of_le m2 m4)); have m6 := hb6.size; obtain ⟨x0, x1, x2, x3, x4, f0', f1', f2', f3', f4'⟩ := ten K56.out; clear hb6; unfold iv)
                have hg0w : w.heap.size < w0.heap.size := by rw [HG0.out]; omega
                have lt7 : w0.heap.size < w6.heap.size := by omega
                have SZ7 := Lib.hid (show w0.heap.size < (((((w6.setCell ⟨g5, 0, none⟩ (.int .u8 ((wOp ⟨op, a, b, c, im⟩ p v).op : Int))).setCell ⟨g5, 1, none⟩ (.int .u8 ((wOp ⟨op, a, b, c, im⟩ p v).a : Int))).setCell ⟨g5, 2, none⟩ (.int .u8 ((wOp ⟨op, a, b, c, im⟩ p v).b : Int))).setCell ⟨g5, 3, none⟩ (.int .u8 ((wOp ⟨op, a, b, c, im⟩ p v).c : Int))).setCell ⟨g5, 4, none⟩ (.int .u32 ((wOp ⟨op, a, b, c, im⟩ p v).im : Int))).heap.size by rw [(only5 w6 g5 _ _ _ _ _).size]; exact lt7)
                go_roundw
                case rel => exact ⟨j + 1, m, _, ws, wOp ⟨op, a, b, c, im⟩ p v, by omega, by omega, rfl, by go_num, HLm.out, HT2.out, Lib.hid ((V6.out.cut1 HLm.out).only (only5 _ _ _ _ _ _ _) (by omega)), HR2.out, put5 K56.out _ _ _ _ _, K06.out.only (only5 _ _ _ _ _ _ _) (by omega), SZ7.out, below5 X6.out (by omega) _ _ _ _ _⟩
                case measure => simp [intOf]; omega
      · obtain rfl : j = 4 := by omega
        obtain ⟨q0, q1, q2, q3, q4, -⟩ := ten K5.out
        obtain ⟨d0, d1, d2, d3, d4, y0, y1, y2, y3, y4⟩ := ten K05.out
        cases ws with
        | nil =>
          have hn0 := HL.out
          simp only [List.length_nil] at hn0
          subst hn0
          have hr : rd s = some ⟨op, a, b, c, im⟩ := by rw [HR.out]; rfl
          have HV := Lib.hid (show rdV s = ⟨op, a, b, c, im⟩ by unfold rdV; rw [hr]; rfl)
          have HE := Lib.hid (show rdE s = 0 by unfold rdE; rw [hr]; rfl)
          clear hr
          go_wp2_with fail
          refine bodyPost_ret (res_insn rfl rfl (put5 K05.out _ _ _ _ _)) rfl ?_
          rw [HV.out, HE.out]
          exact ⟨rfl, below5 HW.out (Nat.le_refl _) _ _ _ _ _⟩
        | cons y ws =>
          have hn0 := HL.out
          simp only [List.length_cons] at hn0
          obtain ⟨m, rfl⟩ : ∃ m, n = m + 1 := ⟨ws.length, hn0.symm⟩
          have hr : rd s = none := by rw [HR.out]; simp [rdL]
          have HV := Lib.hid (show rdV s = in0 by unfold rdV; rw [hr]; rfl)
          have HE := Lib.hid (show rdE s = 3 by unfold rdE; rw [hr]; rfl)
          have hm1 : (0 : Int) < (m : Int) + 1 := by omega
          clear hr hn0
          go_wp2_with fail
          refine bodyPost_ret (res_insn rfl rfl (put5 K05.out _ _ _ _ _)) rfl ?_
          rw [HV.out, HE.out]
          exact ⟨rfl, below5 HW.out (Nat.le_refl _) _ _ _ _ _⟩
end
end Go.Proofs.YtcedjjolikmbbaaDoor
