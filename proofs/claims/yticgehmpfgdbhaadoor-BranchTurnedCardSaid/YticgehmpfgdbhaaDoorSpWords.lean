/- The words for spans in memory: a struct's block is loaded, a result is read out of its variable. No condition. -/
import Derived.Test.YticgehmpfgdbhaaDoorProg
import Derived.Test.YticgehmpfgdbhaaDoorWords
import Derived.Test.YticgehmpfgdbhaaDoorSpMath
import Derived.WalkLawsBesides
import Derived.Lib.Hide
import Derived.IntWalk
import Derived.Laws.ResultCell
import Derived.StillTactics
import Derived.Handy
import Derived.OpenShut
import Derived.Deep.RegionHeld3
namespace Go.Proofs.YticgehmpfgdbhaaDoor
open Go.RowKit
set_option maxRecDepth 100000

theorem infoS : (Tryd.prog.info? 24).map (·.size) = some 2 := by kernel_rfl
theorem load_sp {w : World} {g : Nat} {a b : Value} (hb : Blk w g 24 #[a, b]) : (loadVar 24 ⟨g, 0, none⟩).run Tryd.prog w = .ok (.agg #[a, b]) w :=
  run_loadVar_row w g 24 24 _ _ _ hb Tryd.underlying24 rfl infoS
theorem res_one {fn : Func} {p : Tmp} (h : fn.results = #[.cell p 24]) {tmps : Array Value} {w : World} {g : Nat} {a b : Value} (hp : tmps.getD p undef = .pointer (some ⟨g, 0, none⟩)) (hb : Blk w g 24 #[a, b]) :
    (results fn tmps).run Tryd.prog w = .ok (.agg #[a, b]) w := by
  have hp' : tmps[p]?.getD undef = .pointer (some ⟨g, 0, none⟩) := by simpa using hp
  simp [results, h, hp', asAddr, load_sp hb]
theorem res_two {fn : Func} {p u : Tmp} (h : fn.results = #[.cell p 24, .tmp u]) {tmps : Array Value} {w : World} {g : Nat} {a b : Value} (hp : tmps.getD p undef = .pointer (some ⟨g, 0, none⟩)) (hb : Blk w g 24 #[a, b]) :
    (results fn tmps).run Tryd.prog w = .ok (.tuple #[.agg #[a, b], tmps.getD u undef]) w := by
  rw [results_cell_tmp h, hp]
  simp [asAddr, load_sp hb]
/-- The cells of a span. -/
theorem two {w : World} {g : Nat} {t : TypeId} {v0 v1 : Value} (h : Blk w g t #[v0, v1]) : w.cell? ⟨g, 0, none⟩ = some v0 ∧ w.cell? ⟨g, 1, none⟩ = some v1 := ⟨h.cell 0, h.cell 1⟩
theorem ice {w : World} {g : Nat} {t : TypeId} {v0 v1 : Value} (h : Blk w g t #[v0, v1]) : w.frozen? ⟨g, 0, none⟩ = false ∧ w.frozen? ⟨g, 1, none⟩ = false := ⟨h.frozen 0, h.frozen 1⟩
theorem put2 {w : World} {g : Nat} {t : TypeId} {v0 v1 : Value} (h : Blk w g t #[v0, v1]) (u0 u1 : Value) : Blk ((w.setCell ⟨g, 0, none⟩ u0).setCell ⟨g, 1, none⟩ u1) g t #[u0, u1] := (h.put 0 u0).put 1 u1
theorem below2 {B : Nat} {w w' : World} {g : Nat} (h : Below B w w') (hB : B ≤ g) (u0 u1 : Value) : Below B w ((w'.setCell ⟨g, 0, none⟩ u0).setCell ⟨g, 1, none⟩ u1) := (h.setCell hB u0).setCell hB u1
/-- What a call of a function of spans leaves: its answer, and no block of before has turned. -/
abbrev Ans (f : FuncId) (args : Array Value) (v : Value) (w : World) : Prop := Calls Tryd.prog f args w fun e w' => e = .returned v ∧ Below w.heap.size w w'
theorem ret_i {k : IntKind} {x y : Int} (h : x = y) : Value.int k x = .int k y := by rw [h]
/-- W came out of w with no block of before turned; the listed blocks hold the spans listed. -/
def Fr (w W : World) : List (Nat × Nat × Nat) → Prop
  | [] => Below w.heap.size w W
  | (g, a, b) :: r => Blk W g 24 #[.int .u64 (a : Int), .int .u64 (b : Int)] ∧ Fr w W r
theorem Fr.below {w W : World} : ∀ {l : List (Nat × Nat × Nat)}, Fr w W l → Below w.heap.size w W
  | [], h => h
  | _ :: _, h => Fr.below h.2
theorem Fr.step {w W W' : World} : ∀ {l : List (Nat × Nat × Nat)}, Fr w W l → Below W.heap.size W W' → Fr w W' l
  | [], h, k => Below.trans h (k.mono (show w.heap.size ≤ W.heap.size from Below.size h))
  | _ :: _, h, k => ⟨h.1.below k h.1.lt, Fr.step h.2 k⟩
theorem Fr.drew {w W : World} {l : List (Nat × Nat × Nat)} (h : Fr w W l) : Fr w W.drew l := h.step (Below.drew (Below.refl _ _))
theorem Fr.drewN {w W : World} {l : List (Nat × Nat × Nat)} (h : Fr w W l) (n : Nat) : Fr w (W.drewN n) l := h.step ⟨rfl, rfl, rfl, Nat.le_refl _, fun _ _ => rfl⟩
theorem Fr.new {w W : World} {l : List (Nat × Nat × Nat)} (h : Fr w W l) (a b : Nat) : Fr w (W.alloc (.cells #[.int .u64 (a : Int), .int .u64 (b : Int)] 24)) ((W.heap.size, a, b) :: l) :=
  ⟨Blk.new _ _ _, h.step (by go_grown)⟩
theorem Fr.nil (w : World) : Fr w w [] := Below.refl _ _
/-- The cells of the span in block g. -/
abbrev S2 (W : World) (g a b : Nat) : Prop := W.cell? ⟨g, 0, none⟩ = some (.int .u64 (a : Int)) ∧ W.cell? ⟨g, 1, none⟩ = some (.int .u64 (b : Int))
abbrev I2 (W : World) (g : Nat) : Prop := W.frozen? ⟨g, 0, none⟩ = false ∧ W.frozen? ⟨g, 1, none⟩ = false
theorem Fr.q1 {w W : World} {g a b : Nat} {l : List (Nat × Nat × Nat)} (h : Fr w W ((g, a, b) :: l)) : S2 W g a b := two h.1
theorem Fr.i1 {w W : World} {g a b : Nat} {l : List (Nat × Nat × Nat)} (h : Fr w W ((g, a, b) :: l)) : I2 W g := ice h.1
theorem Fr.f1 (w : World) (a b : Nat) : Fr w (w.alloc (.cells #[.int .u64 (a : Int), .int .u64 (b : Int)] 24)) [(w.heap.size, a, b)] := (Fr.nil w).new a b
theorem Fr.f2 (w : World) (a b c d : Nat) : Fr w ((w.alloc (.cells #[.int .u64 (a : Int), .int .u64 (b : Int)] 24)).alloc (.cells #[.int .u64 (c : Int), .int .u64 (d : Int)] 24)) [(w.heap.size + 1, c, d), (w.heap.size, a, b)] := by
  have h := (Fr.f1 w a b).new c d
  simpa using h
theorem Fr.f3 (w : World) (a b c d : Nat) : Fr w (((w.alloc (.cells #[.int .u64 (a : Int), .int .u64 (b : Int)] 24)).alloc (.cells #[.int .u64 (c : Int), .int .u64 (d : Int)] 24)).alloc (.cells #[.int .u64 0, .int .u64 0] 24)) [(w.heap.size + 1 + 1, 0, 0), (w.heap.size + 1, c, d), (w.heap.size, a, b)] := by
  have h := (Fr.f2 w a b c d).new 0 0
  simpa using h
theorem third {w : World} {o1 o2 : Obj} {t : TypeId} {cs : Array Value} : Blk (((w.alloc o1).alloc o2).alloc (.cells cs t)) (w.heap.size + 1 + 1) t cs := by
  have h := Blk.new ((w.alloc o1).alloc o2) t cs
  simpa using h
theorem nat_u64 {n : Int} (h : (Lit.int .u64 n).wf = true) : ∃ a : Nat, n = a ∧ a < 18446744073709551616 := by
  have := Go.bounds_u64 h
  exact ⟨n.toNat, by omega, by omega⟩
theorem nat_u8 {n : Int} (h : (Lit.int .u8 n).wf = true) : ∃ a : Nat, n = a ∧ a < 256 := by
  have := Go.bounds_u8 h
  exact ⟨n.toNat, by omega, by omega⟩
theorem u_in {z : Int} {n : Nat} (h : z = n) (hn : n < 18446744073709551616) : IntKind.u64.wrap z = n := by
  rw [IntKind.wrap_u64]; omega
/-- The end of a call that answers a span. -/
theorem done1 {w W : World} {fn : Func} {a : Act} {p : Tmp} {g : Nat} {x y : Int} {v : Sp} (h : fn.results = #[.cell p 24]) (hp : a.tmps.getD p undef = .pointer (some ⟨g, 0, none⟩)) (hd : a.defers = [])
    (hb : Blk W g 24 #[.int .u64 x, .int .u64 y]) (hx : x = v.lo) (hy : y = v.hi) (X : Below w.heap.size w W) :
    bodyPost Tryd.prog fn (fun e w' => e = .returned (spv v) ∧ Below w.heap.size w w') .ret a W := by
  refine bodyPost_ret (res_one h hp hb) hd ⟨?_, X⟩
  rw [hx, hy]; rfl
/-- The end of a call that answers a span and an error. -/
theorem done2 {w W : World} {fn : Func} {a : Act} {p u : Tmp} {g : Nat} {x y : Int} {v : Sp} {E E' : Int} (h : fn.results = #[.cell p 24, .tmp u]) (hp : a.tmps.getD p undef = .pointer (some ⟨g, 0, none⟩)) (hu : a.tmps.getD u undef = .int .i64 E) (hd : a.defers = [])
    (hb : Blk W g 24 #[.int .u64 x, .int .u64 y]) (hx : x = v.lo) (hy : y = v.hi) (hE : E = E') (X : Below w.heap.size w W) :
    bodyPost Tryd.prog fn (fun e w' => e = .returned (.tuple #[spv v, .int .i64 E']) ∧ Below w.heap.size w w') .ret a W := by
  refine bodyPost_ret (res_two h hp hb) hd ⟨?_, X⟩
  rw [hx, hy, hu, hE]; rfl
end Go.Proofs.YticgehmpfgdbhaaDoor
