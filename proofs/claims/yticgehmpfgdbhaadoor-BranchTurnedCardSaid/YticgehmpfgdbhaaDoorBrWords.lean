/- More words: the end of a call that answers two spans. No condition. -/
import Derived.Test.YticgehmpfgdbhaaDoorSpFr
import Derived.Test.YticgehmpfgdbhaaDoorBrMath
namespace Go.Proofs.YticgehmpfgdbhaaDoor
open Go.RowKit
set_option maxRecDepth 100000
theorem res_three {fn : Func} {p q c : Tmp} (h : fn.results = #[.cell p 24, .cell q 24, .tmp c]) {tmps : Array Value} {w : World} {g k : Nat} {x y z t : Value} (hp : tmps.getD p undef = .pointer (some ⟨g, 0, none⟩)) (hq : tmps.getD q undef = .pointer (some ⟨k, 0, none⟩))
    (hb : Blk w g 24 #[x, y]) (hk : Blk w k 24 #[z, t]) : (results fn tmps).run Tryd.prog w = .ok (.tuple #[.agg #[x, y], .agg #[z, t], tmps.getD c undef]) w := by
  have hp' : tmps[p]?.getD undef = .pointer (some ⟨g, 0, none⟩) := by simpa using hp
  have hq' : tmps[q]?.getD undef = .pointer (some ⟨k, 0, none⟩) := by simpa using hq
  simp [results, h, hp', hq', asAddr, load_sp hb, load_sp hk]
theorem res_four {fn : Func} {p q c u : Tmp} (h : fn.results = #[.cell p 24, .cell q 24, .tmp c, .tmp u]) {tmps : Array Value} {w : World} {g k : Nat} {x y z t : Value} (hp : tmps.getD p undef = .pointer (some ⟨g, 0, none⟩)) (hq : tmps.getD q undef = .pointer (some ⟨k, 0, none⟩))
    (hb : Blk w g 24 #[x, y]) (hk : Blk w k 24 #[z, t]) : (results fn tmps).run Tryd.prog w = .ok (.tuple #[.agg #[x, y], .agg #[z, t], tmps.getD c undef, tmps.getD u undef]) w := by
  have hp' : tmps[p]?.getD undef = .pointer (some ⟨g, 0, none⟩) := by simpa using hp
  have hq' : tmps[q]?.getD undef = .pointer (some ⟨k, 0, none⟩) := by simpa using hq
  simp [results, h, hp', hq', asAddr, load_sp hb, load_sp hk]
/-- The end of a call that answers two spans and whether it can be. -/
theorem done3 {w W : World} {fn : Func} {a : Act} {p q c : Tmp} {g k : Nat} {x y z t : Int} {C : Bool} {b : Br} (h : fn.results = #[.cell p 24, .cell q 24, .tmp c]) (hp : a.tmps.getD p undef = .pointer (some ⟨g, 0, none⟩)) (hq : a.tmps.getD q undef = .pointer (some ⟨k, 0, none⟩))
    (hc : a.tmps.getD c undef = .bool C) (hd : a.defers = []) (hb : Blk W g 24 #[.int .u64 x, .int .u64 y]) (hk : Blk W k 24 #[.int .u64 z, .int .u64 t]) (hx : x = b.u.lo) (hy : y = b.u.hi) (hz : z = b.v.lo) (ht : t = b.v.hi) (hC : C = b.can) (X : Below w.heap.size w W) :
    bodyPost Tryd.prog fn (fun e w' => e = .returned (.tuple #[spv b.u, spv b.v, .bool b.can]) ∧ Below w.heap.size w w') .ret a W := by
  refine bodyPost_ret (res_three h hp hq hb hk) hd ⟨?_, X⟩
  rw [hx, hy, hz, ht, hc, hC]; rfl
/-- The same, and an error. -/
theorem done4 {w W : World} {fn : Func} {a : Act} {p q c u : Tmp} {g k : Nat} {x y z t : Int} {C : Bool} {E E' : Int} {b : Br} (h : fn.results = #[.cell p 24, .cell q 24, .tmp c, .tmp u]) (hp : a.tmps.getD p undef = .pointer (some ⟨g, 0, none⟩)) (hq : a.tmps.getD q undef = .pointer (some ⟨k, 0, none⟩))
    (hc : a.tmps.getD c undef = .bool C) (hu : a.tmps.getD u undef = .int .i64 E) (hd : a.defers = []) (hb : Blk W g 24 #[.int .u64 x, .int .u64 y]) (hk : Blk W k 24 #[.int .u64 z, .int .u64 t]) (hx : x = b.u.lo) (hy : y = b.u.hi) (hz : z = b.v.lo) (ht : t = b.v.hi) (hC : C = b.can) (hE : E = E') (X : Below w.heap.size w W) :
    bodyPost Tryd.prog fn (fun e w' => e = .returned (.tuple #[spv b.u, spv b.v, .bool b.can, .int .i64 E']) ∧ Below w.heap.size w w') .ret a W := by
  refine bodyPost_ret (res_four h hp hq hb hk) hd ⟨?_, X⟩
  rw [hx, hy, hz, ht, hc, hC, hu, hE]; rfl
/-- Two blocks are written, one behind the other. -/
theorem put4 {w : World} {g k : Nat} {t : TypeId} {v0 v1 v2 v3 : Value} (h : Blk w g t #[v0, v1]) (hk : Blk w k t #[v2, v3]) (ne : g ≠ k) (u0 u1 u2 u3 : Value) :
    Blk ((((w.setCell ⟨g, 0, none⟩ u0).setCell ⟨g, 1, none⟩ u1).setCell ⟨k, 0, none⟩ u2).setCell ⟨k, 1, none⟩ u3) g t #[u0, u1] ∧ Blk ((((w.setCell ⟨g, 0, none⟩ u0).setCell ⟨g, 1, none⟩ u1).setCell ⟨k, 0, none⟩ u2).setCell ⟨k, 1, none⟩ u3) k t #[u2, u3] := by
  have a := put2 h u0 u1
  have b := (hk.only (Only.setCellAt w g 0 u0) (by omega)).only (Only.setCellAt _ g 1 u1) (by omega)
  exact ⟨(a.only (Only.setCellAt _ k 0 u2) (by omega)).only (Only.setCellAt _ k 1 u3) (by omega), put2 b u2 u3⟩
theorem below4 {B : Nat} {w w' : World} {g k : Nat} (h : Below B w w') (hg : B ≤ g) (hk : B ≤ k) (u0 u1 u2 u3 : Value) :
    Below B w ((((w'.setCell ⟨g, 0, none⟩ u0).setCell ⟨g, 1, none⟩ u1).setCell ⟨k, 0, none⟩ u2).setCell ⟨k, 1, none⟩ u3) := below2 (below2 h hg u0 u1) hk u2 u3
theorem Fr.f4 (w : World) (a b c d : Nat) : Fr w ((((w.alloc (.cells #[.int .u64 (a : Int), .int .u64 (b : Int)] 24)).alloc (.cells #[.int .u64 (c : Int), .int .u64 (d : Int)] 24)).alloc (.cells #[.int .u64 0, .int .u64 0] 24)).alloc (.cells #[.int .u64 0, .int .u64 0] 24)) [(w.heap.size + 1 + 1 + 1, 0, 0), (w.heap.size + 1 + 1, 0, 0), (w.heap.size + 1, c, d), (w.heap.size, a, b)] := by
  have h := (Fr.f3 w a b c d).new 0 0
  simpa using h
theorem Fr.z4 (w : World) (a b c d : Nat) : Fr w ((((w.alloc (.cells #[.int .u64 (a : Int), .int .u64 (b : Int)] 24)).alloc (.cells #[.int .u64 (c : Int), .int .u64 (d : Int)] 24)).alloc (.cells #[.int .u64 0, .int .u64 0] 24)).alloc (.cells #[.int .u64 0, .int .u64 0] 24)) [(w.heap.size, a, b), (w.heap.size + 1, c, d), (w.heap.size + 1 + 1, 0, 0), (w.heap.size + 1 + 1 + 1, 0, 0)] := Fr.p4 w a b c d 0 0 0 0
theorem Fr.z5 (w : World) (a b c d : Nat) : Fr w (((((w.alloc (.cells #[.int .u64 (a : Int), .int .u64 (b : Int)] 24)).alloc (.cells #[.int .u64 (c : Int), .int .u64 (d : Int)] 24)).alloc (.cells #[.int .u64 0, .int .u64 0] 24)).alloc (.cells #[.int .u64 0, .int .u64 0] 24)).alloc (.cells #[.int .u64 0, .int .u64 0] 24)) [(w.heap.size, a, b), (w.heap.size + 1, c, d), (w.heap.size + 1 + 1, 0, 0), (w.heap.size + 1 + 1 + 1, 0, 0), (w.heap.size + 1 + 1 + 1 + 1, 0, 0)] := by
  have h := (Fr.z4 w a b c d).put 0 0
  simpa using h
theorem Fr.uv {w W : World} {a b c d e f g h : Nat} (k : Fr w W [(w.heap.size, a, b), (w.heap.size + 1, c, d), (w.heap.size + 1 + 1, e, f), (w.heap.size + 1 + 1 + 1, g, h)]) (x y z v : Nat) :
    Fr w ((((W.setCell ⟨w.heap.size + 1 + 1, 0, none⟩ (.int .u64 (x : Int))).setCell ⟨w.heap.size + 1 + 1, 1, none⟩ (.int .u64 (y : Int))).setCell ⟨w.heap.size + 1 + 1 + 1, 0, none⟩ (.int .u64 (z : Int))).setCell ⟨w.heap.size + 1 + 1 + 1, 1, none⟩ (.int .u64 (v : Int))) [(w.heap.size + 1 + 1, x, y), (w.heap.size + 1 + 1 + 1, z, v)] := by
  have K := put4 k.2.2.1 k.2.2.2.1 (by omega) (.int .u64 (x : Int)) (.int .u64 (y : Int)) (.int .u64 (z : Int)) (.int .u64 (v : Int))
  exact ⟨K.1, K.2, below4 k.below (by omega) (by omega) _ _ _ _⟩
theorem Fr.vu {w W : World} {a b c d e f g h : Nat} (k : Fr w W [(w.heap.size, a, b), (w.heap.size + 1, c, d), (w.heap.size + 1 + 1, e, f), (w.heap.size + 1 + 1 + 1, g, h)]) (x y z v : Nat) :
    Fr w ((((W.setCell ⟨w.heap.size + 1 + 1 + 1, 0, none⟩ (.int .u64 (z : Int))).setCell ⟨w.heap.size + 1 + 1 + 1, 1, none⟩ (.int .u64 (v : Int))).setCell ⟨w.heap.size + 1 + 1, 0, none⟩ (.int .u64 (x : Int))).setCell ⟨w.heap.size + 1 + 1, 1, none⟩ (.int .u64 (y : Int))) [(w.heap.size + 1 + 1, x, y), (w.heap.size + 1 + 1 + 1, z, v)] := by
  have K := put4 k.2.2.2.1 k.2.2.1 (by omega) (.int .u64 (z : Int)) (.int .u64 (v : Int)) (.int .u64 (x : Int)) (.int .u64 (y : Int))
  exact ⟨K.2, K.1, below4 k.below (by omega) (by omega) _ _ _ _⟩
theorem Blk.al0 {w : World} {g : Nat} {t : TypeId} {x y : Value} (h : Blk w g t #[x, y]) : ∀ o, (w.alloc o).cell? ⟨g, 0, none⟩ = some x := fun o => (two (h.alloc o)).1
theorem Blk.al1 {w : World} {g : Nat} {t : TypeId} {x y : Value} (h : Blk w g t #[x, y]) : ∀ o, (w.alloc o).cell? ⟨g, 1, none⟩ = some y := fun o => (two (h.alloc o)).2
theorem Blk.bl0 {w : World} {g : Nat} {t : TypeId} {x y : Value} (h : Blk w g t #[x, y]) : ∀ o p, ((w.alloc o).alloc p).cell? ⟨g, 0, none⟩ = some x := fun o p => (two ((h.alloc o).alloc p)).1
theorem Blk.bl1 {w : World} {g : Nat} {t : TypeId} {x y : Value} (h : Blk w g t #[x, y]) : ∀ o p, ((w.alloc o).alloc p).cell? ⟨g, 1, none⟩ = some y := fun o p => (two ((h.alloc o).alloc p)).2
theorem Fr.m7u {w W : World} {a b c d e f p q g : Nat} (k : Fr w W [(w.heap.size, a, b), (w.heap.size + 1, c, d), (w.heap.size + 1 + 1, 0, 0), (w.heap.size + 1 + 1 + 1, 0, 0), (w.heap.size + 1 + 1 + 1 + 1, 0, 0), (g, e, f), (g + 1, p, q)]) (hg : w.heap.size + 1 + 1 + 1 + 1 < g) (x y : Nat) :
    Fr w ((W.setCell ⟨g, 0, none⟩ (.int .u64 (x : Int))).setCell ⟨g, 1, none⟩ (.int .u64 (y : Int))) [(w.heap.size, a, b), (w.heap.size + 1, c, d), (w.heap.size + 1 + 1, 0, 0), (w.heap.size + 1 + 1 + 1, 0, 0), (w.heap.size + 1 + 1 + 1 + 1, 0, 0), (g, x, y), (g + 1, p, q)] :=
  ⟨((k.1.only (Only.setCellAt W (g) 0 _) (by omega)).only (Only.setCellAt _ (g) 1 _) (by omega)), ((k.2.1.only (Only.setCellAt W (g) 0 _) (by omega)).only (Only.setCellAt _ (g) 1 _) (by omega)), ((k.2.2.1.only (Only.setCellAt W (g) 0 _) (by omega)).only (Only.setCellAt _ (g) 1 _) (by omega)), ((k.2.2.2.1.only (Only.setCellAt W (g) 0 _) (by omega)).only (Only.setCellAt _ (g) 1 _) (by omega)), ((k.2.2.2.2.1.only (Only.setCellAt W (g) 0 _) (by omega)).only (Only.setCellAt _ (g) 1 _) (by omega)), put2 k.2.2.2.2.2.1 _ _, ((k.2.2.2.2.2.2.1.only (Only.setCellAt W (g) 0 _) (by omega)).only (Only.setCellAt _ (g) 1 _) (by omega)), below2 k.below (by omega) _ _⟩
theorem Fr.m7v {w W : World} {a b c d e f p q g : Nat} (k : Fr w W [(w.heap.size, a, b), (w.heap.size + 1, c, d), (w.heap.size + 1 + 1, 0, 0), (w.heap.size + 1 + 1 + 1, 0, 0), (w.heap.size + 1 + 1 + 1 + 1, 0, 0), (g, e, f), (g + 1, p, q)]) (hg : w.heap.size + 1 + 1 + 1 + 1 < g) (x y : Nat) :
    Fr w ((W.setCell ⟨g + 1, 0, none⟩ (.int .u64 (x : Int))).setCell ⟨g + 1, 1, none⟩ (.int .u64 (y : Int))) [(w.heap.size, a, b), (w.heap.size + 1, c, d), (w.heap.size + 1 + 1, 0, 0), (w.heap.size + 1 + 1 + 1, 0, 0), (w.heap.size + 1 + 1 + 1 + 1, 0, 0), (g, e, f), (g + 1, x, y)] :=
  ⟨((k.1.only (Only.setCellAt W (g + 1) 0 _) (by omega)).only (Only.setCellAt _ (g + 1) 1 _) (by omega)), ((k.2.1.only (Only.setCellAt W (g + 1) 0 _) (by omega)).only (Only.setCellAt _ (g + 1) 1 _) (by omega)), ((k.2.2.1.only (Only.setCellAt W (g + 1) 0 _) (by omega)).only (Only.setCellAt _ (g + 1) 1 _) (by omega)), ((k.2.2.2.1.only (Only.setCellAt W (g + 1) 0 _) (by omega)).only (Only.setCellAt _ (g + 1) 1 _) (by omega)), ((k.2.2.2.2.1.only (Only.setCellAt W (g + 1) 0 _) (by omega)).only (Only.setCellAt _ (g + 1) 1 _) (by omega)), ((k.2.2.2.2.2.1.only (Only.setCellAt W (g + 1) 0 _) (by omega)).only (Only.setCellAt _ (g + 1) 1 _) (by omega)), put2 k.2.2.2.2.2.2.1 _ _, below2 k.below (by omega) _ _⟩
theorem Fr.put2 {w W : World} {l : List (Nat × Nat × Nat)} (h : Fr w W l) (a b c d : Nat) : Fr w ((W.alloc (.cells #[.int .u64 (a : Int), .int .u64 (b : Int)] 24)).alloc (.cells #[.int .u64 (c : Int), .int .u64 (d : Int)] 24)) (l ++ [(W.heap.size, a, b), (W.heap.size + 1, c, d)]) := by
  have k := (h.put a b).put c d
  simpa using k
theorem drewB {w : World} {g : Nat} {t : TypeId} {cs : Array Value} (h : Blk w g t cs) : Blk w.drew g t cs := h.below (Below.drew (Below.refl _ _)) h.lt
theorem Fr.s6p {w W : World} {a b c d : Nat} {l : List (Nat × Nat × Nat)} (h : Fr w W ((w.heap.size, a, b) :: (w.heap.size + 1, c, d) :: l)) : S6 W w.heap.size a b c d := h.s6
theorem Fr.s8p {w W : World} {a b c d : Nat} {l : List (Nat × Nat × Nat)} (h : Fr w W ((w.heap.size, a, b) :: (w.heap.size + 1, c, d) :: l)) (u0 u1 u2 u3 : Value) :
    S6 ((((W.setCell ⟨w.heap.size + 1 + 1, 0, none⟩ u0).setCell ⟨w.heap.size + 1 + 1, 1, none⟩ u1).setCell ⟨w.heap.size + 1 + 1 + 1, 0, none⟩ u2).setCell ⟨w.heap.size + 1 + 1 + 1, 1, none⟩ u3) w.heap.size a b c d := by
  have k (g x y : Nat) (hg : g < w.heap.size + 1 + 1) (e : Blk W g 24 #[.int .u64 (x : Int), .int .u64 (y : Int)]) := (((e.only (Only.setCellAt W (w.heap.size + 1 + 1) 0 u0) (by omega)).only (Only.setCellAt _ (w.heap.size + 1 + 1) 1 u1) (by omega)).only (Only.setCellAt _ (w.heap.size + 1 + 1 + 1) 0 u2) (by omega)).only (Only.setCellAt _ (w.heap.size + 1 + 1 + 1) 1 u3) (by omega)
  have k1 := two (k _ _ _ (by omega) h.1)
  have k2 := two (k _ _ _ (by omega) h.2.1)
  exact ⟨k1.1, k1.2, k2.1, k2.2⟩
end Go.Proofs.YticgehmpfgdbhaaDoor
