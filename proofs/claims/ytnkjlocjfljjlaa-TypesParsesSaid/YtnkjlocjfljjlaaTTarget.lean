/- The contract of Check's closure, and of checkField. Condition: the types can be read. -/
import Derived.Test.YtnkjlocjfljjlaaTBelongs
import Derived.Test.YtnkjlocjfljjlaaTRFieldA
import Derived.Laws.ResultCell
namespace Go.Proofs.Ytnkjlocjfljjlaa
open Go.RowKit
set_option maxRecDepth 100000
set_option maxHeartbeats 4000000
theorem infoT : (Try.prog.info? 32).map (·.size) = some 4 := by kernel_rfl
theorem load_type {w : World} {g : Nat} {a b c d : Value} (hb : Blk w g 32 #[a, b, c, d]) : (loadVar 32 ⟨g, 0, none⟩).run Try.prog w = .ok (.agg #[a, b, c, d]) w :=
  run_loadVar_row w g 32 32 _ _ _ hb Try.underlying32 rfl infoT
theorem res_cell2 {fn : Func} {p u : Tmp} (h : fn.results = #[.cell p 32, .tmp u]) {tmps : Array Value} {w : World} {g : Nat} {a b c d : Value} (hp : tmps.getD p undef = .pointer (some ⟨g, 0, none⟩)) (hb : Blk w g 32 #[a, b, c, d]) :
    (results fn tmps).run Try.prog w = .ok (.tuple #[.agg #[a, b, c, d], tmps.getD u undef]) w := by
  rw [results_cell_tmp h, hp]
  simp [asAddr, Result.andThen, load_type hb]
theorem blk_new {w : World} {g : Nat} (hg : w.heap.size = g) (t : TypeId) (cs : Array Value) : Blk (w.alloc (.cells cs t)) g t cs := by subst hg; exact Blk.new _ _ _
section
variable {w : World}
theorem target_no (A : Option Addr) (n cap : Nat) (ts : List Ty) (h : Lt w A n cap ts) (f : Fd) (g : Nat) (hg : g < w.heap.size) (hc : w.cell? ⟨g, 0, none⟩ = some (.slice A n cap)) (ht : tgt ts f.ty = none) :
    Calls Try.prog 22 #[fv f, .pointer (some ⟨g, 0, none⟩)] w fun e w' => e = .returned (.tuple #[.agg #[.string ⟨#[]⟩, .bool false, .bool false, .slice none 0 0], .bool false]) ∧ Below w.heap.size w w' := by
  obtain ⟨kd, ln, ty, lk, ky⟩ := f
  simp only at ht
  unfold fv
  have hle := h.le
  have hmx := h.max
  have HN := Lib.hid h.len
  have H := Lib.hid h
  clear h
  by_cases hneg : ty < 0
  · clear ht
    go_enter Try.func22, Try.ntmps22
    go_wp2_with fail
    refine bodyPost_ret (res_cell2 rfl rfl (blk_new (by simp) _ _)) rfl ⟨rfl, ?_⟩
    (repeat' (first | exact Below.refl _ _ | assumption | (refine Below.alloc ?_ (by (try simp) <;> omega) _)))
  · obtain ⟨m, rfl⟩ : ∃ m : Nat, ty = (m : Int) := ⟨ty.toNat, by omega⟩
    have hm : n ≤ m := by
      rcases Nat.lt_or_ge m n with hlt | hge
      · obtain ⟨b, o, u, FA, fk, fc, _, hu, _⟩ := H.out.at m hlt
        rw [tgt_at hu.out] at ht
        cases ht
      · exact hge
    clear ht hneg
    go_enter Try.func22, Try.ntmps22
    go_wp2_with fail
    refine bodyPost_ret (res_cell2 rfl rfl (blk_new (by simp) _ _)) rfl ⟨rfl, ?_⟩
    (repeat' (first | exact Below.refl _ _ | assumption | (refine Below.alloc ?_ (by (try simp) <;> omega) _)))
theorem target_ok (A : Option Addr) (n cap : Nat) (ts : List Ty) (h : Lt w A n cap ts) (f : Fd) (g : Nat) (hg : g < w.heap.size) (hc : w.cell? ⟨g, 0, none⟩ = some (.slice A n cap)) (u : Ty) (ht : tgt ts f.ty = some u) :
    Calls Try.prog 22 #[fv f, .pointer (some ⟨g, 0, none⟩)] w fun e w' => ∃ FA fk fc, e = .returned (.tuple #[.agg #[.string u.name, .bool u.value, .bool u.refs, .slice FA fk fc], .bool true]) ∧ Lf w FA fk fc u.fields ∧ Below w.heap.size w w' := by
  obtain ⟨kd, ln, ty, lk, ky⟩ := f
  simp only at ht
  unfold fv
  have hle := h.le
  have hmx := h.max
  have HN := Lib.hid h.len
  have H := Lib.hid h
  clear h
  have hneg : ¬ ty < 0 := by
    intro hn
    rw [tgt_neg hn] at ht
    cases ht
  obtain ⟨m, rfl⟩ : ∃ m : Nat, ty = (m : Int) := ⟨ty.toNat, by omega⟩
  have hm : m < n := by
    rcases Nat.lt_or_ge m n with hlt | hge
    · exact hlt
    · rw [tgt_far (by rw [HN.out]; exact hge)] at ht
      cases ht
  obtain ⟨b, o, u', FA, fk, fc, rfl, hu, hnm, hb, c0, c1, c2, c3, hf⟩ := H.out.at m hm
  obtain rfl : u' = u := by
    rw [tgt_at hu.out] at ht
    injection ht
  clear ht hneg hu
  go_enter Try.func22, Try.ntmps22
  go_wp2_with fail
  refine bodyPost_ret (res_cell2 rfl rfl (blk_new (by simp) _ _)) rfl ⟨_, _, _, rfl, hf.out, ?_⟩
  (repeat' (first | exact Below.refl _ _ | assumption | (refine Below.alloc ?_ (by (try simp) <;> omega) _)))
end
end Go.Proofs.Ytnkjlocjfljjlaa
