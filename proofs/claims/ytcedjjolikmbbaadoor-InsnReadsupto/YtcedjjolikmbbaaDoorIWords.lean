/- Words for instructions in memory: the value of one; the tables in their blocks. No condition. -/
import Derived.Test.YtcedjjolikmbbaaDoorProg
import Derived.WalkLawsBesides
import Derived.Test.YtcedjjolikmbbaaDoorIMath
import Derived.Test.YtcedjjolikmbbaaDoorWords
import Derived.Lib.LaidTab
import Derived.Lib.Hide
import Derived.OwnWalk
import Derived.Deep.QuietTactic
import Derived.BigQuiet
namespace Go.Proofs.YtcedjjolikmbbaaDoor
open Go.RowKit

abbrev iv (i : In) : Value := .agg #[.int .u8 i.op, .int .u8 i.a, .int .u8 i.b, .int .u8 i.c, .int .u32 i.im]
def st (l : List UInt8) : ByteArray := ⟨l.toArray⟩
def sv (l : List UInt8) : Value := .string (st l)
theorem st_size (l : List UInt8) : (st l).size = l.length := by simp [st, ByteArray.size]
theorem st_data (l : List UInt8) : (st l).data.toList = l := by simp [st]
theorem st_inj {a b : List UInt8} (h : st a = st b) : a = b := by
  have := congrArg (fun x : ByteArray => x.data.toList) h
  simpa [st] using this
theorem st_app (a b : List UInt8) : st a ++ st b = st (a ++ b) := by
  apply ByteArray.ext
  simp [st, ByteArray.data_append]
theorem w32 (n : Nat) (h : n < 4294967296) : IntKind.u32.wrap (n : Int) = (n : Int) := by simp [IntKind.wrap, IntKind.bits, IntKind.signed]; omega
theorem w64u (n : Nat) (h : n < 18446744073709551616) : IntKind.u64.wrap (n : Int) = (n : Int) := by simp [IntKind.wrap, IntKind.bits, IntKind.signed]; omega
theorem w8 (n : Nat) : IntKind.u8.wrap (n : Int) = ((n % 256 : Nat) : Int) := by simp [IntKind.wrap, IntKind.bits, IntKind.signed]
theorem w8i (n : Nat) (h : n < 256) : IntKind.u8.wrap (n : Int) = (n : Int) := by rw [w8, Nat.mod_eq_of_lt h]
theorem w64 (n : Nat) (h : n < 9223372036854775808) : IntKind.i64.wrap (n : Int) = (n : Int) := by simp [IntKind.wrap, IntKind.bits, IntKind.signed]; omega
/-- The tables lie in their blocks. -/
structure Tabs (w : World) : Prop where
  rows : ∀ op k p f : Nat, (rowN op)[k]? = some (p, f) → w.cell? ⟨0, op * 8 + k * 2, none⟩ = some (.int .u8 (p : Int)) ∧ w.cell? ⟨0, op * 8 + k * 2 + 1, none⟩ = some (.int .u8 (f : Int))
  forms : ∀ f : Nat, f < 10 → w.cell? ⟨5, f * 3, none⟩ = some (.int .u32 (lowN f : Int)) ∧ w.cell? ⟨5, f * 3 + 1, none⟩ = some (.int .u32 (highN f : Int)) ∧ w.cell? ⟨5, f * 3 + 2, none⟩ = some (sv (signN f))
  alu : ∀ c : Nat, c < 12 → w.cell? ⟨1, c, none⟩ = some (sv (aluT.getD c []))
  cond : ∀ c : Nat, c < 10 → w.cell? ⟨2, c, none⟩ = some (sv (condT.getD c []))
  ops : ∀ c : Nat, c < 16 → w.cell? ⟨3, c, none⟩ = some (sv (opsT.getD c []))
  help : ∀ c : Nat, c < 23 → w.cell? ⟨4, c, none⟩ = some (sv (helpT.getD c []))
  max : ∃ m : Int, w.cell? ⟨6, 0, none⟩ = some (.int .i64 m)
  pow : Lib.TabIs Tryd.prog w "internal/strconv.uint64pow10" .u64 Lib.pow10Tab
  syn : ∃ tp p, w.var? Tryd.prog "strconv.ErrSyntax" = some #[.iface tp p]
  rng : ∃ tp p, w.var? Tryd.prog "strconv.ErrRange" = some #[.iface tp p]
  size : 14 ≤ w.heap.size
theorem gPow : Tryd.prog.globalNamed "internal/strconv.uint64pow10" = some 7 := by kernel_rfl
theorem gSyn : Tryd.prog.globalNamed "strconv.ErrSyntax" = some 10 := by kernel_rfl
theorem gRng : Tryd.prog.globalNamed "strconv.ErrRange" = some 11 := by kernel_rfl
theorem var_below {B g : Nat} {w w' : World} {n : String} (hg : Tryd.prog.globalNamed n = some g) (hb : Below B w w') (h : g < B) : w'.var? Tryd.prog n = w.var? Tryd.prog n := by
  unfold World.var?
  rw [hg]
  simp only [Option.bind_some]
  rw [hb.block g h]
theorem Tabs.below {B : Nat} {w w' : World} (h : Tabs w) (hb : Below B w w') (hB : 14 ≤ B) : Tabs w' := by
  have go : ∀ b q, b < 14 → w'.cell? ⟨b, q, none⟩ = w.cell? ⟨b, q, none⟩ := fun b q hq => hb.cell (p := ⟨b, q, none⟩) (by simp only; omega)
  refine ⟨fun op k p f e => ?_, fun f e => ?_, fun c e => ?_, fun c e => ?_, fun c e => ?_, fun c e => ?_, ?_, ?_, ?_, ?_, Nat.le_trans h.size hb.size⟩
  · rw [go _ _ (by omega), go _ _ (by omega)]; exact h.rows op k p f e
  · rw [go _ _ (by omega), go _ _ (by omega), go _ _ (by omega)]; exact h.forms f e
  · rw [go _ _ (by omega)]; exact h.alu c e
  · rw [go _ _ (by omega)]; exact h.cond c e
  · rw [go _ _ (by omega)]; exact h.ops c e
  · rw [go _ _ (by omega)]; exact h.help c e
  · rw [go _ _ (by omega)]; exact h.max
  · unfold Lib.TabIs; rw [var_below gPow hb (by omega)]; exact h.pow
  · rw [var_below gSyn hb (by omega)]; exact h.syn
  · rw [var_below gRng hb (by omega)]; exact h.rng
theorem Tabs.out {w w' : World} (h : Tabs w) (hb : Below w.heap.size w w') : Tabs w' := h.below hb h.size
/-- The four operands of a row. -/
theorem Tabs.row {w : World} (h : Tabs w) (op : Nat) (ho : op < 16) : ∃ p0 f0 p1 f1 p2 f2 p3 f3 : Nat, Hid (rowN op = [(p0, f0), (p1, f1), (p2, f2), (p3, f3)]) ∧ (p0 < 5 ∧ f0 < 10 ∧ p1 < 5 ∧ f1 < 10 ∧ p2 < 5 ∧ f2 < 10 ∧ p3 < 5 ∧ f3 < 10) ∧
    w.cell? ⟨0, op * 8, none⟩ = some (.int .u8 (p0 : Int)) ∧ w.cell? ⟨0, op * 8 + 1, none⟩ = some (.int .u8 (f0 : Int)) ∧
    w.cell? ⟨0, op * 8 + 2, none⟩ = some (.int .u8 (p1 : Int)) ∧ w.cell? ⟨0, op * 8 + 3, none⟩ = some (.int .u8 (f1 : Int)) ∧
    w.cell? ⟨0, op * 8 + 4, none⟩ = some (.int .u8 (p2 : Int)) ∧ w.cell? ⟨0, op * 8 + 5, none⟩ = some (.int .u8 (f2 : Int)) ∧
    w.cell? ⟨0, op * 8 + 6, none⟩ = some (.int .u8 (p3 : Int)) ∧ w.cell? ⟨0, op * 8 + 7, none⟩ = some (.int .u8 (f3 : Int)) := by
  obtain ⟨p0, f0, p1, f1, p2, f2, p3, f3, hr, y⟩ := row_fin ⟨op, ho⟩
  simp only at hr
  exact ⟨p0, f0, p1, f1, p2, f2, p3, f3, hr, y, (h.rows op 0 p0 f0 (by rw [hr]; rfl)).1, (h.rows op 0 p0 f0 (by rw [hr]; rfl)).2, (h.rows op 1 p1 f1 (by rw [hr]; rfl)).1, (h.rows op 1 p1 f1 (by rw [hr]; rfl)).2,
    (h.rows op 2 p2 f2 (by rw [hr]; rfl)).1, (h.rows op 2 p2 f2 (by rw [hr]; rfl)).2, (h.rows op 3 p3 f3 (by rw [hr]; rfl)).1, (h.rows op 3 p3 f3 (by rw [hr]; rfl)).2⟩
end Go.Proofs.YtcedjjolikmbbaaDoor
