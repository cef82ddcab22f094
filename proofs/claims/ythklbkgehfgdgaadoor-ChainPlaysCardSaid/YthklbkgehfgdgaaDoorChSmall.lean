/- The contracts of chain's small functions: holds, link, set, sides, orHead. Conditions: the table of widths lies in its block; the arena's blocks are known. -/
import Derived.Test.YthklbkgehfgdgaaDoorAny
import Derived.Test.YthklbkgehfgdgaaDoorChCut
import Derived.IntWalk
import Derived.BigQuiet
namespace Go.Proofs.YthklbkgehfgdgaaDoor
open Go.RowKit

/-- w' is w, but for what block g holds, and for new blocks. -/
structure Fg (g : Nat) (w w' : World) : Prop where
  os : w'.os = w.os
  tape : w'.tape = w.tape
  output : w'.output = w.output
  size : w.heap.size ≤ w'.heap.size
  block : ∀ k, k < w.heap.size → k ≠ g → w'.heap[k]? = w.heap[k]?
section
variable {g : Nat} {w w' w'' : World}
theorem Fg.refl (g : Nat) (w : World) : Fg g w w := ⟨rfl, rfl, rfl, Nat.le_refl _, fun _ _ _ => rfl⟩
theorem Fg.trans (h : Fg g w w') (k : Fg g w' w'') : Fg g w w'' :=
  ⟨k.os.trans h.os, k.tape.trans h.tape, k.output.trans h.output, Nat.le_trans h.size k.size, fun i hi hg => (k.block i (Nat.lt_of_lt_of_le hi h.size) hg).trans (h.block i hi hg)⟩
theorem Fg.of_only (h : Only g w w') : Fg g w w' := ⟨h.os, h.tape, h.output, Nat.le_of_eq h.size.symm, fun k _ hg => h.block k hg⟩
theorem Fg.of_below {B : Nat} (h : Below B w w') (hB : w.heap.size ≤ B) : Fg g w w' := ⟨h.os, h.tape, h.output, h.size, fun k hk _ => h.block k (by omega)⟩
theorem Fg.below {B : Nat} (h : Fg g w w') (hB : B ≤ w.heap.size) (hg : B ≤ g) : Below B w w' := ⟨h.os, h.tape, h.output, h.size, fun k hk => h.block k (by omega) (by omega)⟩
theorem Blk.fg {b : Nat} {t : TypeId} {cs : Array Value} (h : Blk w b t cs) (ho : Fg g w w') (hb : b ≠ g) : Blk w' b t cs := (ho.block b h.lt hb).trans h
theorem Tab.fg (h : Tab w) (ho : Fg g w w') (hw : 0 < w.heap.size) (hg : 0 < g) : Tab w' := by
  obtain ⟨t, fr, e⟩ := h
  exact ⟨t, fr, (ho.block _ hw (by omega)).trans e⟩
theorem below_one (w : World) (o : Obj) : Below w.heap.size w (w.alloc o) := (Below.refl _ w).alloc (Nat.le_refl _) o
end
/-- A chain's links: the arena's pointer, boxed. -/
abbrev lv (p : Nat) : Value := .agg #[.pointer (some ⟨p, 0, none⟩)]

section
variable {w : World} {p g n : Nat} {f : Nat → Int}
set_option maxRecDepth 100000 in
theorem link_at (k : Nat) (hT : Tab w) (hw0 : 0 < w.heap.size) (h : Ar w p g n f) (hk : k + 4 ≤ n) :
    Calls Tryd.prog 29 #[lv p, .int .i64 k] w fun e w' => e = .returned (.int .i64 (lk f k)) ∧ Below w.heap.size w w' := by
  obtain ⟨l1, l2⟩ := lk_bd h.byte k
  have hv : IntKind.i64.wrap (lk f k) = lk f k := IntWalk.i64_in _ (by omega)
  have b1 := below_one w (.cells #[.pointer (some ⟨p, 0, none⟩)] 60)
  have HB := Lib.hid b1
  have HT := Lib.hid (hT.below b1 hw0)
  have HA := Lib.hid (h.below b1 h.head.lt h.body.lt)
  clear hT h b1
  go_enter Tryd.func29, Tryd.ntmps29
  go_wp2_with (go_at_call 42; refine (load_ok p g n f k 4 HT.out HA.out (by decide) hk).mono ?_; rintro e w' ⟨rfl, rfl⟩; rw [show ld f k 4 = lk f k from rfl])
  go_ret
  exact ⟨rfl, HB.out⟩

set_option maxRecDepth 100000 in
theorem set_at (k v : Nat) (hT : Tab w) (hw0 : 0 < w.heap.size) (h : Ar w p g n f) (hk : k + 4 ≤ n) (hv : v < 4294967296) :
    Calls Tryd.prog 31 #[lv p, .int .i64 k, .int .i64 v] w fun e w' => (∃ u, e = .returned u) ∧ Ar w' p g n (st f k v 4) ∧ Fg g w w' := by
  have hvw : IntKind.u64.wrap ((v : Nat) : Int) = v := by rw [IntKind.wrap_u64]; omega
  have b1 := below_one w (.cells #[.pointer (some ⟨p, 0, none⟩)] 60)
  have HB := Lib.hid b1
  have HT := Lib.hid (hT.below b1 hw0)
  have HA := Lib.hid (h.below b1 h.head.lt h.body.lt)
  clear hT h b1
  go_enter Tryd.func31, Tryd.ntmps31
  go_wp2_with (go_at_call 43; refine (store_ok p g n f k 4 v HT.out HA.out (by omega) (by decide) hk).mono ?_; rintro e w' ⟨rfl, hA, hO⟩; replace hA := Lib.hid hA; replace hO := Lib.hid hO)
  go_end0
  exact ⟨⟨_, rfl⟩, hA.out, (Fg.of_below HB.out (Nat.le_refl _)).trans (Fg.of_only hO.out)⟩

/-- Is something of that size within? -/
def hd (n : Nat) (a size : Int) : Bool := decide (1 ≤ a) && decide (a ≤ n - size)
set_option maxRecDepth 100000 in
theorem holds_any (a size : Int) (h : Ar w p g n f) (hs : 0 ≤ size ∧ size ≤ 65536) :
    Calls Tryd.prog 28 #[lv p, .int .i64 a, .int .i64 size] w fun e w' => e = .returned (.bool (hd n a size)) ∧ Below w.heap.size w w' := by
  have hn := h.small
  have hvw : IntKind.i64.wrap ((n : Int) - size) = n - size := IntWalk.i64_in _ (by omega)
  have b1 := below_one w (.cells #[.pointer (some ⟨p, 0, none⟩)] 60)
  have HB := Lib.hid b1
  have HA := Lib.hid (h.below b1 h.head.lt h.body.lt)
  clear h b1
  by_cases h1 : (1 : Int) ≤ a
  · have d1 : decide ((1 : Int) ≤ a) = true := decide_eq_true h1
    have e1 : hd n a size = decide (a ≤ (n : Int) - size) := by unfold hd; rw [d1]; rfl
    rw [e1]
    clear e1
    go_enter Tryd.func28, Tryd.ntmps28
    go_wp2_with (go_at_call 41; refine (len_any _ _ _ _ HA.out.mem).mono ?_; rintro e w' ⟨rfl, rfl⟩)
    go_ret
    exact ⟨rfl, HB.out⟩
  · have d1 : decide ((1 : Int) ≤ a) = false := decide_eq_false h1
    have e1 : hd n a size = false := by unfold hd; rw [d1]; rfl
    rw [e1]
    clear e1 h1
    go_enter Tryd.func28, Tryd.ntmps28
    go_wp2
    go_ret
    exact ⟨rfl, HB.out⟩

theorem sides_any (d : Bool) (w : World) :
    Calls Tryd.prog 30 #[.bool d] w fun e w' => e = .returned (.tuple #[.int .i64 (off d : Nat), .int .i64 (off (!d) : Nat)]) ∧ w = w' := by
  cases d
  · go_enter Tryd.func30, Tryd.ntmps30
    go_wp2
    go_ret2
    exact ⟨rfl, rfl⟩
  · go_enter Tryd.func30, Tryd.ntmps30
    go_wp2
    go_ret2
    exact ⟨rfl, rfl⟩
theorem orHead_any (nb h : Nat) (w : World) :
    Calls Tryd.prog 32 #[.int .i64 nb, .int .i64 h] w fun e w' => e = .returned (.int .i64 (oh nb h : Nat)) ∧ w = w' := by
  by_cases h0 : nb = 0
  · subst h0
    go_enter Tryd.func32, Tryd.ntmps32
    go_wp2
    go_ret
    exact ⟨rfl, rfl⟩
  · have e : oh nb h = nb := by simp [oh, h0]
    rw [e]
    have hi : ¬ ((nb : Nat) : Int) = 0 := by omega
    clear e h0
    go_enter Tryd.func32, Tryd.ntmps32
    go_wp2
    go_ret
    exact ⟨rfl, rfl⟩
end
end Go.Proofs.YthklbkgehfgdgaaDoor
