/- The contract of insnOf. Condition: the eight bytes can be read. -/
import Derived.Test.YtcedjjolikmbbaaDoorIBytes
import Derived.Test.YtcedjjolikmbbaaDoorICheck
import Derived.Deep.RegionHeld3
import Derived.Laws.ResultCell
import Derived.Deep.CutRange
namespace Go.Proofs.YtcedjjolikmbbaaDoor
open Go.RowKit
set_option maxRecDepth 100000
set_option maxHeartbeats 2000000

/-- Eight bytes as an instruction. -/
def d8 (bs : List Nat) : In := ⟨bs.getD 0 0, bs.getD 1 0, bs.getD 2 0, bs.getD 3 0, bs.getD 4 0 + 256 * bs.getD 5 0 + 65536 * bs.getD 6 0 + 16777216 * bs.getD 7 0⟩
theorem d8_ok {bs : List Nat} (h : Byt bs) : (d8 bs).ok := by
  have h0 := byt_at h 0
  have h1 := byt_at h 1
  have h2 := byt_at h 2
  have h3 := byt_at h 3
  have h4 := byt_at h 4
  have h5 := byt_at h 5
  have h6 := byt_at h 6
  have h7 := byt_at h 7
  unfold d8 In.ok
  simp only
  omega
theorem or_im {x c m : Nat} {e : Int} {y : Nat} (hx : x < 2 ^ m) (hy : x + 2 ^ m * c < 4294967296) (he : e = ((2 ^ m * c : Nat) : Int)) (hyy : x + 2 ^ m * c = y) : bits .or .u32 (x : Int) e = (y : Int) := by
  subst he hyy
  rw [u32_or_nat _ _ (by omega) (by omega)]
  congr 1
  rw [Nat.or_comm, ← Nat.two_pow_add_eq_or_of_lt hx]
  omega
theorem infoI2 : (Tryd.prog.info? 24).map (·.size) = some 5 := by kernel_rfl
theorem load_insn2 {w : World} {g : Nat} {a b c d e : Value} (hb : Blk w g 24 #[a, b, c, d, e]) : (loadVar 24 ⟨g, 0, none⟩).run Tryd.prog w = .ok (.agg #[a, b, c, d, e]) w :=
  run_loadVar_row w g 24 24 _ _ _ hb Tryd.underlying24 rfl infoI2
theorem res_one {fn : Func} {p : Tmp} (h : fn.results = #[.cell p 24]) {tmps : Array Value} {w : World} {g : Nat} {a b c d e : Value} (hp : tmps.getD p undef = .pointer (some ⟨g, 0, none⟩)) (hb : Blk w g 24 #[a, b, c, d, e]) :
    (results fn tmps).run Tryd.prog w = .ok (.agg #[a, b, c, d, e]) w := by
  have hp' : tmps[p]?.getD undef = .pointer (some ⟨g, 0, none⟩) := by simpa using hp
  simp [results, h, hp', asAddr, load_insn2 hb]
section
variable {w : World}
theorem insnOf_any (A : Option Addr) (c : Nat) (bs : List Nat) (h : Rd w A 8 c bs) :
    Calls Tryd.prog 39 #[.slice A 8 c] w fun e w' => e = .returned (iv (d8 bs)) ∧ Below w.heap.size w w' := by
  have h8 := h.le
  obtain ⟨b, o, rfl, hb, hc⟩ := h.base (by omega)
  have y0 := byt_at h.byt 0
  have y1 := byt_at h.byt 1
  have y2 := byt_at h.byt 2
  have y3 := byt_at h.byt 3
  have y4 := byt_at h.byt 4
  have y5 := byt_at h.byt 5
  have y6 := byt_at h.byt 6
  have y7 := byt_at h.byt 7
  have HV := Lib.hid (show d8 bs = ⟨bs.getD 0 0, bs.getD 1 0, bs.getD 2 0, bs.getD 3 0, bs.getD 4 0 + 256 * bs.getD 5 0 + 65536 * bs.getD 6 0 + 16777216 * bs.getD 7 0⟩ from rfl)
  have c0 := hc 0 (by omega)
  have c1 := hc 1 (by omega)
  have c2 := hc 2 (by omega)
  have c3 := hc 3 (by omega)
  have c4 := hc 4 (by omega)
  have c5 := hc 5 (by omega)
  have c6 := hc 6 (by omega)
  have c7 := hc 7 (by omega)
  generalize bs.getD 0 0 = b0 at *
  generalize bs.getD 1 0 = b1 at *
  generalize bs.getD 2 0 = b2 at *
  generalize bs.getD 3 0 = b3 at *
  generalize bs.getD 4 0 = b4 at *
  generalize bs.getD 5 0 = b5 at *
  generalize bs.getD 6 0 = b6 at *
  generalize bs.getD 7 0 = b7 at *
  rw [Nat.add_zero] at c0
  have HC := Lib.hid (And.intro c4 (And.intro c5 (And.intro c6 c7)))
  have h8' : (8 : Int) ≤ c := by omega
  clear hc h c4 c5 c6 c7
  have K4 := Lib.hid (show ∀ W, Below w.heap.size w W → W.cell? ⟨b, o, none⟩ = some (.int .u8 (b0 : Int)) ∧ W.cell? ⟨b, o + 1, none⟩ = some (.int .u8 (b1 : Int)) ∧ W.cell? ⟨b, o + 2, none⟩ = some (.int .u8 (b2 : Int)) ∧ W.cell? ⟨b, o + 3, none⟩ = some (.int .u8 (b3 : Int)) from fun W hW => ⟨(hW.cell (p := ⟨b, o, none⟩) hb).trans c0, (hW.cell (p := ⟨b, o + 1, none⟩) hb).trans c1, (hW.cell (p := ⟨b, o + 2, none⟩) hb).trans c2, (hW.cell (p := ⟨b, o + 3, none⟩) hb).trans c3⟩)
  go_enter Tryd.func39, Tryd.ntmps39
  go_upto_region 1 with fail
  go_cut [3] from 6 to 18 (fun v wx => v = .pointer (some ⟨w.heap.size + 1, 0, none⟩) ∧ wx = ((w.alloc (.cells #[.int .u8 0, .int .u8 0, .int .u8 0, .int .u8 0, .int .u32 0] 24)).alloc (.cells #[.int .u8 (b0 : Int), .int .u8 (b1 : Int), .int .u8 (b2 : Int), .int .u8 (b3 : Int), .int .u32 0] 24)).drew)
  case first =>
    go_region_held3 (fun w' => w'.cell? ⟨b, o, none⟩ = some (.int .u8 (b0 : Int)) ∧ w'.cell? ⟨b, o + 1, none⟩ = some (.int .u8 (b1 : Int)) ∧ w'.cell? ⟨b, o + 2, none⟩ = some (.int .u8 (b2 : Int)) ∧ w'.cell? ⟨b, o + 3, none⟩ = some (.int .u8 (b3 : Int))) (first | exact K4.out _ (by go_grown) | go_keep) (first | fail)
    all_goals
      go_wp2_with fail
      go_meet
      exact ⟨rfl, rfl⟩
  case rest =>
  obtain ⟨rfl, rfl⟩ := hcut
  clear K4 c0 c1 c2 c3
  have c4n : ¬ c = 4 := by omega
  obtain ⟨w0, hw0⟩ : ∃ w0, w0 = ((w.alloc (.cells #[.int .u8 0, .int .u8 0, .int .u8 0, .int .u8 0, .int .u32 0] 24)).alloc (.cells #[.int .u8 (b0 : Int), .int .u8 (b1 : Int), .int .u8 (b2 : Int), .int .u8 (b3 : Int), .int .u32 0] 24)).drew := ⟨_, rfl⟩
  rw [← hw0]
  have KZ := Lib.hid (show Blk w0 w.heap.size 24 #[.int .u8 0, .int .u8 0, .int .u8 0, .int .u8 0, .int .u32 0] by rw [hw0]; exact (Blk.new _ _ _).alloc _)
  have KI := Lib.hid (show Blk w0 (w.heap.size + 1) 24 #[.int .u8 (b0 : Int), .int .u8 (b1 : Int), .int .u8 (b2 : Int), .int .u8 (b3 : Int), .int .u32 0] by rw [hw0]; have := Blk.new (w.alloc (.cells #[.int .u8 0, .int .u8 0, .int .u8 0, .int .u8 0, .int .u32 0] 24)) 24 #[.int .u8 (b0 : Int), .int .u8 (b1 : Int), .int .u8 (b2 : Int), .int .u8 (b3 : Int), .int .u32 0]; simp only [World.size_alloc] at this; exact this)
  have X0 := Lib.hid (show Below w.heap.size w w0 by rw [hw0]; go_grown)
  clear hw0
  go_wp2_with fail
  go_loopw [22] (fun q wr => ∃ (t x : Nat), t ≤ 4 ∧ q = .int .i64 t ∧ Hid (x = [0, b4, b4 + 256 * b5, b4 + 256 * b5 + 65536 * b6, b4 + 256 * b5 + 65536 * b6 + 16777216 * b7].getD t 0) ∧ Hid (Blk wr (w.heap.size + 1) 24 #[.int .u8 (b0 : Int), .int .u8 (b1 : Int), .int .u8 (b2 : Int), .int .u8 (b3 : Int), .int .u32 (x : Int)]) ∧ Hid (Blk wr w.heap.size 24 #[.int .u8 0, .int .u8 0, .int .u8 0, .int .u8 0, .int .u32 0]) ∧ Hid (Below w.heap.size w wr)) (fun q _ => 4 - (intOf q).toNat)
  case atStart => exact ⟨0, 0, by omega, rfl, rfl, KI.out, KZ.out, X0.out⟩
  case round =>
    clear KI KZ X0
    obtain ⟨t, x, ht, rfl, HX, KI, KZ, HW⟩ := hrel
    have hws := HW.out.size
    have l1 := KI.out.lt
    have l0 := KZ.out.lt
    have e4 := KI.out.cell 4
    have z4 := KI.out.frozen 4
    simp at e4
    rcases (show t = 0 ∨ t = 1 ∨ t = 2 ∨ t = 3 ∨ t = 4 by omega) with rfl | rfl | rfl | rfl | rfl
    · have d := (HW.out.cell (p := ⟨b, o + 4, none⟩) hb).trans HC.out.1
      have v1 : IntKind.i64.wrap 0 = 0 := by decide
      have v2 := w32 b4 (by omega)
      have hx0 : x = 0 := HX.out
      obtain ⟨y, hy⟩ : ∃ y, y = b4 := ⟨_, rfl⟩
      have EQ := Lib.hid (show bits .or .u32 (x : Int) (b4 : Int) = (y : Int) from or_im (c := b4) (m := 0) (by rw [hx0]; omega) (by rw [hx0]; omega) (by simp) (by rw [hx0, hy] <;> omega))
      have HY := Lib.hid hy
      clear hy hx0
      have KI2 := Lib.hid (show Blk (wr.setCell ⟨w.heap.size + 1, 4, none⟩ (.int .u32 (y : Int))).drew (w.heap.size + 1) 24 #[.int .u8 (b0 : Int), .int .u8 (b1 : Int), .int .u8 (b2 : Int), .int .u8 (b3 : Int), .int .u32 (y : Int)] from KI.out.put 4 _)
      have KZ2 := Lib.hid (show Blk (wr.setCell ⟨w.heap.size + 1, 4, none⟩ (.int .u32 (y : Int))).drew w.heap.size 24 #[.int .u8 0, .int .u8 0, .int .u8 0, .int .u8 0, .int .u32 0] from (show Blk (wr.setCell ⟨w.heap.size + 1, 4, none⟩ (.int .u32 (y : Int))) w.heap.size 24 #[.int .u8 0, .int .u8 0, .int .u8 0, .int .u8 0, .int .u32 0] from KZ.out.only (Only.setCellAt wr (w.heap.size + 1) 4 _) (by omega)))
      have HW2 := Lib.hid (show Below w.heap.size w (wr.setCell ⟨w.heap.size + 1, 4, none⟩ (.int .u32 (y : Int))).drew from (HW.out.trans ((Only.setCellAt wr (w.heap.size + 1) 4 _).below (B := w.heap.size) (Nat.le_succ w.heap.size))).drew)
      go_wp2_with fail
      go_region_with fail
      rw [EQ.out]
      go_wp2_with fail
      go_roundw
      case rel => exact ⟨1, y, by omega, by go_num, HY.out, KI2.out, KZ2.out, HW2.out⟩
      case measure => simp [intOf]
    · have d := (HW.out.cell (p := ⟨b, o + 5, none⟩) hb).trans HC.out.2.1
      have v1 : IntKind.i64.wrap 8 = 8 := by decide
      have v2 := w32 b5 (by omega)
      have hx0 : x = b4 := HX.out
      obtain ⟨y, hy⟩ : ∃ y, y = b4 + 256 * b5 := ⟨_, rfl⟩
      have EQ := Lib.hid (show bits .or .u32 (x : Int) (IntKind.u32.wrap ((b5 : Int) * 256)) = (y : Int) from or_im (c := b5) (m := 8) (by rw [hx0]; omega) (by rw [hx0]; omega) (by rw [show (b5 : Int) * 256 = ((256 * b5 : Nat) : Int) by omega, w32 _ (by omega)]) (by rw [hx0, hy] <;> omega))
      have HY := Lib.hid hy
      clear hy hx0
      have KI2 := Lib.hid (show Blk (wr.setCell ⟨w.heap.size + 1, 4, none⟩ (.int .u32 (y : Int))).drew (w.heap.size + 1) 24 #[.int .u8 (b0 : Int), .int .u8 (b1 : Int), .int .u8 (b2 : Int), .int .u8 (b3 : Int), .int .u32 (y : Int)] from KI.out.put 4 _)
      have KZ2 := Lib.hid (show Blk (wr.setCell ⟨w.heap.size + 1, 4, none⟩ (.int .u32 (y : Int))).drew w.heap.size 24 #[.int .u8 0, .int .u8 0, .int .u8 0, .int .u8 0, .int .u32 0] from (show Blk (wr.setCell ⟨w.heap.size + 1, 4, none⟩ (.int .u32 (y : Int))) w.heap.size 24 #[.int .u8 0, .int .u8 0, .int .u8 0, .int .u8 0, .int .u32 0] from KZ.out.only (Only.setCellAt wr (w.heap.size + 1) 4 _) (by omega)))
      have HW2 := Lib.hid (show Below w.heap.size w (wr.setCell ⟨w.heap.size + 1, 4, none⟩ (.int .u32 (y : Int))).drew from (HW.out.trans ((Only.setCellAt wr (w.heap.size + 1) 4 _).below (B := w.heap.size) (Nat.le_succ w.heap.size))).drew)
      go_wp2_with fail
      go_region_with fail
      rw [EQ.out]
      go_wp2_with fail
      go_roundw
      case rel => exact ⟨2, y, by omega, by go_num, HY.out, KI2.out, KZ2.out, HW2.out⟩
      case measure => simp [intOf]
    · have d := (HW.out.cell (p := ⟨b, o + 6, none⟩) hb).trans HC.out.2.2.1
      have v1 : IntKind.i64.wrap 16 = 16 := by decide
      have v2 := w32 b6 (by omega)
      have hx0 : x = b4 + 256 * b5 := HX.out
      obtain ⟨y, hy⟩ : ∃ y, y = b4 + 256 * b5 + 65536 * b6 := ⟨_, rfl⟩
      have EQ := Lib.hid (show bits .or .u32 (x : Int) (IntKind.u32.wrap ((b6 : Int) * 65536)) = (y : Int) from or_im (c := b6) (m := 16) (by rw [hx0]; omega) (by rw [hx0]; omega) (by rw [show (b6 : Int) * 65536 = ((65536 * b6 : Nat) : Int) by omega, w32 _ (by omega)]) (by rw [hx0, hy] <;> omega))
      have HY := Lib.hid hy
      clear hy hx0
      have KI2 := Lib.hid (show Blk (wr.setCell ⟨w.heap.size + 1, 4, none⟩ (.int .u32 (y : Int))).drew (w.heap.size + 1) 24 #[.int .u8 (b0 : Int), .int .u8 (b1 : Int), .int .u8 (b2 : Int), .int .u8 (b3 : Int), .int .u32 (y : Int)] from KI.out.put 4 _)
      have KZ2 := Lib.hid (show Blk (wr.setCell ⟨w.heap.size + 1, 4, none⟩ (.int .u32 (y : Int))).drew w.heap.size 24 #[.int .u8 0, .int .u8 0, .int .u8 0, .int .u8 0, .int .u32 0] from (show Blk (wr.setCell ⟨w.heap.size + 1, 4, none⟩ (.int .u32 (y : Int))) w.heap.size 24 #[.int .u8 0, .int .u8 0, .int .u8 0, .int .u8 0, .int .u32 0] from KZ.out.only (Only.setCellAt wr (w.heap.size + 1) 4 _) (by omega)))
      have HW2 := Lib.hid (show Below w.heap.size w (wr.setCell ⟨w.heap.size + 1, 4, none⟩ (.int .u32 (y : Int))).drew from (HW.out.trans ((Only.setCellAt wr (w.heap.size + 1) 4 _).below (B := w.heap.size) (Nat.le_succ w.heap.size))).drew)
      go_wp2_with fail
      go_region_with fail
      rw [EQ.out]
      go_wp2_with fail
      go_roundw
      case rel => exact ⟨3, y, by omega, by go_num, HY.out, KI2.out, KZ2.out, HW2.out⟩
      case measure => simp [intOf]
    · have d := (HW.out.cell (p := ⟨b, o + 7, none⟩) hb).trans HC.out.2.2.2
      have v1 : IntKind.i64.wrap 24 = 24 := by decide
      have v2 := w32 b7 (by omega)
      have hx0 : x = b4 + 256 * b5 + 65536 * b6 := HX.out
      obtain ⟨y, hy⟩ : ∃ y, y = b4 + 256 * b5 + 65536 * b6 + 16777216 * b7 := ⟨_, rfl⟩
      have EQ := Lib.hid (show bits .or .u32 (x : Int) (IntKind.u32.wrap ((b7 : Int) * 16777216)) = (y : Int) from or_im (c := b7) (m := 24) (by rw [hx0]; omega) (by rw [hx0]; omega) (by rw [show (b7 : Int) * 16777216 = ((16777216 * b7 : Nat) : Int) by omega, w32 _ (by omega)]) (by rw [hx0, hy] <;> omega))
      have HY := Lib.hid hy
      clear hy hx0
      have KI2 := Lib.hid (show Blk (wr.setCell ⟨w.heap.size + 1, 4, none⟩ (.int .u32 (y : Int))).drew (w.heap.size + 1) 24 #[.int .u8 (b0 : Int), .int .u8 (b1 : Int), .int .u8 (b2 : Int), .int .u8 (b3 : Int), .int .u32 (y : Int)] from KI.out.put 4 _)
      have KZ2 := Lib.hid (show Blk (wr.setCell ⟨w.heap.size + 1, 4, none⟩ (.int .u32 (y : Int))).drew w.heap.size 24 #[.int .u8 0, .int .u8 0, .int .u8 0, .int .u8 0, .int .u32 0] from (show Blk (wr.setCell ⟨w.heap.size + 1, 4, none⟩ (.int .u32 (y : Int))) w.heap.size 24 #[.int .u8 0, .int .u8 0, .int .u8 0, .int .u8 0, .int .u32 0] from KZ.out.only (Only.setCellAt wr (w.heap.size + 1) 4 _) (by omega)))
      have HW2 := Lib.hid (show Below w.heap.size w (wr.setCell ⟨w.heap.size + 1, 4, none⟩ (.int .u32 (y : Int))).drew from (HW.out.trans ((Only.setCellAt wr (w.heap.size + 1) 4 _).below (B := w.heap.size) (Nat.le_succ w.heap.size))).drew)
      go_wp2_with fail
      go_region_with fail
      rw [EQ.out]
      go_wp2_with fail
      go_roundw
      case rel => exact ⟨4, y, by omega, by go_num, HY.out, KI2.out, KZ2.out, HW2.out⟩
      case measure => simp [intOf]
    · have HX2 := Lib.hid (show x = b4 + 256 * b5 + 65536 * b6 + 16777216 * b7 from HX.out)
      obtain ⟨q0, q1, q2, q3, q4, -⟩ := ten KI.out
      obtain ⟨d0, d1, d2, d3, d4, f0, f1, f2, f3, f4⟩ := ten KZ.out
      clear e4 z4
      go_wp2_with fail
      refine bodyPost_ret (res_one rfl rfl (put5 KZ.out _ _ _ _ _)) rfl ?_
      rw [HV.out, ← HX2.out]
      exact ⟨rfl, below5 HW.out (Nat.le_refl _) _ _ _ _ _⟩
end
end Go.Proofs.YtcedjjolikmbbaaDoor
