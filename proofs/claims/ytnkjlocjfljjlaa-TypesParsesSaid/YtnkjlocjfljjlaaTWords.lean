/- Words for types in memory: a slice of fields, a slice of types, that can be read. No condition. -/
import Derived.Test.YtnkjlocjfljjlaaProg
import Derived.WalkLawsBesides
import Derived.Test.YtnkjlocjfljjlaaTMath
import Derived.Test.YtnkjlocjfljjlaaWInts
import Derived.Test.YtnkjlocjfljjlaaWTakeInts
import Derived.Test.YtnkjlocjfljjlaaWRTakeInts
namespace Go.Proofs.Ytnkjlocjfljjlaa
open Go.RowKit

def fv (f : Fd) : Value := .agg #[.int .i64 f.kind, .int .i64 f.len, .int .i64 f.ty, .int .i64 f.link, .int .i64 f.key]
/-- A slice of k fields, fs, that can be read. -/
structure Lf (w : World) (A : Option Addr) (k cap : Nat) (fs : List Fd) : Prop where
  cells : ∀ (i : Nat) (f : Fd), fs[i]? = some f → ∃ b o, A = some ⟨b, o, none⟩ ∧ b < w.heap.size ∧ f.ok ∧
    w.cell? ⟨b, o + i * 5, none⟩ = some (.int .i64 f.kind) ∧ w.cell? ⟨b, o + i * 5 + 1, none⟩ = some (.int .i64 f.len) ∧ w.cell? ⟨b, o + i * 5 + 2, none⟩ = some (.int .i64 f.ty) ∧
    w.cell? ⟨b, o + i * 5 + 3, none⟩ = some (.int .i64 f.link) ∧ w.cell? ⟨b, o + i * 5 + 4, none⟩ = some (.int .i64 f.key)
  len : fs.length = k
  le : k ≤ cap
  max : cap ≤ 9223372036854775807
/-- A slice of k types, ts, that can be read. -/
structure Lt (w : World) (A : Option Addr) (k cap : Nat) (ts : List Ty) : Prop where
  cells : ∀ (i : Nat) (t : Ty), ts[i]? = some t → ∃ b o FA fk fc, A = some ⟨b, o, none⟩ ∧ b < w.heap.size ∧ t.name.size ≤ 9223372036854775807 ∧
    w.cell? ⟨b, o + i * 4, none⟩ = some (.string t.name) ∧ w.cell? ⟨b, o + i * 4 + 1, none⟩ = some (.bool t.value) ∧ w.cell? ⟨b, o + i * 4 + 2, none⟩ = some (.bool t.refs) ∧
    w.cell? ⟨b, o + i * 4 + 3, none⟩ = some (.slice FA fk fc) ∧ Lf w FA fk fc t.fields
  len : ts.length = k
  le : k ≤ cap
  max : cap ≤ 9223372036854775807
section
variable {w w' : World} {A : Option Addr} {k cap B : Nat} {fs : List Fd} {ts : List Ty}
theorem Lf.below (h : Lf w A k cap fs) (hb : Below B w w') (hB : w.heap.size ≤ B) : Lf w' A k cap fs :=
  ⟨fun i y hi => by
    obtain ⟨b, o, e, hl, hok, c0, c1, c2, c3, c4⟩ := h.cells i y hi
    have go : ∀ q, w'.cell? ⟨b, q, none⟩ = w.cell? ⟨b, q, none⟩ := fun q => hb.cell (p := ⟨b, q, none⟩) (by simp only; omega)
    exact ⟨b, o, e, Nat.lt_of_lt_of_le hl hb.size, hok, (go _).trans c0, (go _).trans c1, (go _).trans c2, (go _).trans c3, (go _).trans c4⟩, h.len, h.le, h.max⟩
theorem Lt.below (h : Lt w A k cap ts) (hb : Below B w w') (hB : w.heap.size ≤ B) : Lt w' A k cap ts :=
  ⟨fun i y hi => by
    obtain ⟨b, o, FA, fk, fc, e, hl, hn, c0, c1, c2, c3, hf⟩ := h.cells i y hi
    have go : ∀ q, w'.cell? ⟨b, q, none⟩ = w.cell? ⟨b, q, none⟩ := fun q => hb.cell (p := ⟨b, q, none⟩) (by simp only; omega)
    exact ⟨b, o, FA, fk, fc, e, Nat.lt_of_lt_of_le hl hb.size, hn, (go _).trans c0, (go _).trans c1, (go _).trans c2, (go _).trans c3, hf.below hb hB⟩, h.len, h.le, h.max⟩
theorem Lf.at (h : Lf w A k cap fs) (i : Nat) (hi : i < k) : ∃ (b o : Nat) (f : Fd), A = some ⟨b, o, none⟩ ∧ Hid (fs[i]? = some f) ∧ f.ok ∧ b < w.heap.size ∧
    w.cell? ⟨b, o + i * 5, none⟩ = some (.int .i64 f.kind) ∧ w.cell? ⟨b, o + i * 5 + 1, none⟩ = some (.int .i64 f.len) ∧ w.cell? ⟨b, o + i * 5 + 2, none⟩ = some (.int .i64 f.ty) ∧
    w.cell? ⟨b, o + i * 5 + 3, none⟩ = some (.int .i64 f.link) ∧ w.cell? ⟨b, o + i * 5 + 4, none⟩ = some (.int .i64 f.key) := by
  have hl := h.len
  obtain ⟨b, o, e, hb, hok, c⟩ := h.cells i (fs[i]'(by omega)) (List.getElem?_eq_getElem _)
  exact ⟨b, o, _, e, List.getElem?_eq_getElem _, hok, hb, c⟩
theorem Lt.at (h : Lt w A k cap ts) (i : Nat) (hi : i < k) : ∃ (b o : Nat) (t : Ty) (FA : Option Addr) (fk fc : Nat), A = some ⟨b, o, none⟩ ∧ Hid (ts[i]? = some t) ∧ t.name.size ≤ 9223372036854775807 ∧ b < w.heap.size ∧
    w.cell? ⟨b, o + i * 4, none⟩ = some (.string t.name) ∧ w.cell? ⟨b, o + i * 4 + 1, none⟩ = some (.bool t.value) ∧ w.cell? ⟨b, o + i * 4 + 2, none⟩ = some (.bool t.refs) ∧
    w.cell? ⟨b, o + i * 4 + 3, none⟩ = some (.slice FA fk fc) ∧ Hid (Lf w FA fk fc t.fields) := by
  have hl := h.len
  obtain ⟨b, o, FA, fk, fc, e, hb, hn, c0, c1, c2, c3, hf⟩ := h.cells i (ts[i]'(by omega)) (List.getElem?_eq_getElem _)
  exact ⟨b, o, _, FA, fk, fc, e, List.getElem?_eq_getElem _, hn, hb, c0, c1, c2, c3, hf⟩
end
end Go.Proofs.Ytnkjlocjfljjlaa
