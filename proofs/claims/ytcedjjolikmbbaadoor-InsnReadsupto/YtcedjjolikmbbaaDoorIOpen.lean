/- What a law is handed, as the walks ask it: instructions, texts; the bound of the second form. No condition. -/
import Derived.Test.YtcedjjolikmbbaaDoorILaid
import Derived.ChangeArms
import Derived.ProofKit
import Derived.OpenShut
import Derived.Lib.SmallJoins
import Derived.SizedLaws
namespace Go.Proofs.YtcedjjolikmbbaaDoor
open Go.ChangeShapes Go.WideShapes Go.ChangeAt Go.RowKit
set_option maxRecDepth 100000

theorem cells5I : Tryd.prog.cellsOf 24 = 5 := by kernel_rfl
theorem laidOut : laidOutB Tryd.prog = true := by kernel_rfl
theorem u8_of {z : Int} (h : (Lit.int .u8 z).wf = true) : ∃ n : Nat, z = n ∧ n < 256 := by
  have h2 : 0 ≤ z ∧ z ≤ 255 := by simpa [Lit.wf, IntKind.min, IntKind.max, IntKind.signed, IntKind.bits] using h
  exact ⟨z.toNat, by omega, by omega⟩
theorem u32_of {z : Int} (h : (Lit.int .u32 z).wf = true) : ∃ n : Nat, z = n ∧ n < 4294967296 := by
  have h2 : 0 ≤ z ∧ z ≤ 4294967295 := by simpa [Lit.wf, IntKind.min, IntKind.max, IntKind.signed, IntKind.bits] using h
  exact ⟨z.toNat, by omega, by omega⟩
section
variable {H : Type} {enc : TypeId × Value → H} {W : World} {base : Nat} {sp : Nat → Bool} {held : Bool}
/-- Five cells that read as an instruction are one. -/
theorem insn_cells {fuel : Nat} {cs : List Value} {x : DataW H × List MemPlace} (h : DataW.trod enc Tryd.prog W base sp held fuel 24 cs = some x) : ∃ i : In, i.ok ∧ cs = [.int .u8 i.op, .int .u8 i.a, .int .u8 i.b, .int .u8 i.c, .int .u32 i.im] := by
  obtain ⟨xs, n, rfl, hx, hl, hxl, hall⟩ := DataW.trod_struct Tryd.underlying24 h
  have cu8 : Tryd.prog.cellsOf 5 = 1 := by kernel_rfl
  have cu32 : Tryd.prog.cellsOf 22 = 1 := by kernel_rfl
  rw [cells5I] at hl
  match cs, hl with
  | [v0, v1, v2, v3, v4], _ =>
    match xs, hxl with
    | [y0, y1, y2, y3, y4], _ =>
      have t0 := hall 0 _ rfl
      have t1 := hall 1 _ rfl
      have t2 := hall 2 _ rfl
      have t3 := hall 3 _ rfl
      have t4 := hall 4 _ rfl
      simp [cu8, cu32] at t0 t1 t2 t3 t4
      obtain ⟨z0, e0, _, f0⟩ := DataW.trod_int Tryd.underlying5 t0
      obtain ⟨z1, e1, _, f1⟩ := DataW.trod_int Tryd.underlying5 t1
      obtain ⟨z2, e2, _, f2⟩ := DataW.trod_int Tryd.underlying5 t2
      obtain ⟨z3, e3, _, f3⟩ := DataW.trod_int Tryd.underlying5 t3
      obtain ⟨z4, e4, _, f4⟩ := DataW.trod_int Tryd.underlying22 t4
      obtain ⟨n0, rfl, g0⟩ := u8_of f0
      obtain ⟨n1, rfl, g1⟩ := u8_of f1
      obtain ⟨n2, rfl, g2⟩ := u8_of f2
      obtain ⟨n3, rfl, g3⟩ := u8_of f3
      obtain ⟨n4, rfl, g4⟩ := u32_of f4
      simp at e0 e1 e2 e3 e4
      subst e0 e1 e2 e3 e4
      exact ⟨⟨n0, n1, n2, n3, n4⟩, ⟨g0, g1, g2, g3, g4⟩, rfl⟩
theorem insn_of {r : Reach} {b0 : Nat} {v : Value} {d : DataW H} {p : List MemPlace} (hv : Value.okWide Tryd.prog W r b0 24 v) (h : DataW.Trod enc Tryd.prog W base sp held 24 v d p) : ∃ i : In, v = iv i ∧ i.ok := by
  obtain ⟨cs, rfl, hsz⟩ := okWide_struct Tryd.underlying24 hv
  obtain ⟨fuel, hf⟩ := h
  obtain ⟨i, hi, e⟩ := insn_cells hf
  refine ⟨i, ?_, hi⟩
  simp only [Value.cells] at e
  obtain ⟨l⟩ := cs
  simp at e
  subst e
  rfl
theorem sv_of (a : ByteArray) : Value.string a = sv a.data.toList := by simp [sv, st]
theorem bulk_mem {d : DataW H} {l : List (DataW H)} (h : d ∈ l) : Rows.uptoBulk d ≤ Rows.uptoBulkAll l := by
  induction l with
  | nil => cases h
  | cons x r ih =>
    simp only [Rows.uptoBulkAll]
    rcases List.mem_cons.1 h with e | e
    · subst e; omega
    · have := ih e; omega
theorem bulk_at {d : DataW H} {l : List (DataW H)} (hk : Rows.uptoSmall H l = true) (h : d ∈ l) : Rows.uptoBulk d ≤ 1048576 := Nat.le_trans (bulk_mem h) (of_decide_eq_true hk)
theorem bulk_str {s : List UInt8} (h : Rows.uptoBulk (DataW.lit (H := H) (.string s)) ≤ 1048576) : s.length ≤ 1048575 := by
  simp only [Rows.uptoBulk] at h
  omega
end
/-- An input that fits: a world whose shape is known. -/
theorem witness_row_shaped {H : Type} {enc : TypeId × Value → H} {C : Checked} {os : Os} {f : FuncId} {fn : Func} {s : OpenSpec} {conds : List PathCond} {apart : Bool} {laid : List (String × DataW Unit)} (modest : Bool) (w0 : World) (args : Array Value) (hos : w0.os = os)
    (hsh : (w0.forCall (fun _ _ => 0) ⟨#[], args, []⟩).Shaped C.prog)
    (hok : Input.okWideB C.prog (w0.forCall (fun _ _ => 0) ⟨#[], args, []⟩) f ⟨#[], args, []⟩ = true)
    (hrow : s.preRow enc C.prog fn conds apart laid (w0.forCall (fun _ _ => 0) ⟨#[], args, []⟩).memory args) :
    ∃ (w : World) (tape : Tape) (i : Input), w.os = os ∧ (w.forCall tape i).Shaped C.prog ∧ i.vars = [] ∧ Input.okWide C.prog (w.forCall tape i) .any w.heap.size f i ∧
      s.preRow enc C.prog fn conds apart laid (w.forCall tape i).memory i.args ∧ ({ modest := modest } : Assume).holds C.prog (lone (Frame.enter C.prog f i.args .normal) [] (w.forCall tape i)) :=
  ⟨w0, fun _ _ => 0, ⟨#[], args, []⟩, hos, hsh, (Input.okWide_of_okWideB (base := 0) hok).1, (Input.okWide_of_okWideB hok).2, hrow, by
    simp only [Assume.holds]
    exact ⟨by simp, by simp, fun _ => Modest.zero, by simp, by simp⟩⟩
end Go.Proofs.YtcedjjolikmbbaaDoor
