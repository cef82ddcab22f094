/- What a law's walk asks of taking and giving, in the words of the state; the sizes that a law is handed. No condition. -/
import Derived.Test.YthblpnnbkjhmhaaDoorSBag
import Derived.Deep.Slices
import Derived.ChangeArms
import Derived.ProofKit
import Derived.OpenShut
namespace Go.Proofs.YthblpnnbkjhmhaaDoor
open Go.RowKit Go.Deep
open Pool (num cnt upd Pl low setR num_testBit quiet_same cnt_le)

/-- Numbers that a law is handed. -/
def Sizes (w : World) (A : Option Addr) (len : Nat) : Prop := ∀ i, i < len → ∃ (b o z : Nat), A = some ⟨b, o, none⟩ ∧ b < w.heap.size ∧ w.cell? ⟨b, o + i, none⟩ = some (.int .u16 z) ∧ z < 65536
theorem cells16 : Tryd.prog.cellsOf 55 = 1 := by kernel_rfl
theorem sizes_of {H : Type} {enc : TypeId × Value → H} {W : World} {base : Nat} {sp : Nat → Bool} {held : Bool} {fuel : Nat} {A : Option Addr} {len cap : Nat} {x : DataW H × List MemPlace}
    (h : DataW.trod enc Tryd.prog W base sp held fuel 54 (Value.cells (.slice A len cap)).toList = some x) : Sizes W A len ∧ len ≤ 9223372036854775807 := by
  rcases open_slice Tryd.underlying54 h with ⟨h0, _⟩ | ⟨a, l, c, m, n, D, Pl, hcs, _, hl, hm, hmm, _, hi⟩
  · simp [Value.cells] at h0
    obtain ⟨rfl, rfl, rfl⟩ := h0
    exact ⟨fun i hi => absurd hi (by omega), by omega⟩
  · simp [Value.cells] at hcs
    obtain ⟨rfl, rfl, rfl⟩ := hcs
    refine ⟨fun i hil => ?_, by have : len ≤ maxLen := by omega
                                unfold maxLen at this; omega⟩
    have hlm : len ≤ m := by rw [hmm]; split <;> omega
    rw [cells16] at hi
    obtain ⟨cs0, hc0, _⟩ := hi 0 (by omega)
    obtain ⟨_, hl0, hat0⟩ := World.cells?_some hc0
    obtain ⟨b, o, spot⟩ := a
    have hspot : spot = none := by
      have h1 := hat0 0 (by omega)
      rw [List.getElem?_eq_getElem (show 0 < cs0.length by omega)] at h1
      simpa [Addr.add] using World.cell?_spot h1
    subst hspot
    obtain ⟨cs, hc, hd⟩ := hi i (by omega)
    obtain ⟨_, hcl, hat⟩ := World.cells?_some hc
    obtain ⟨v, e0, _, w1⟩ := DataW.trod_int Tryd.underlying55 hd
    subst e0
    have a0 := hat 0 (by simp)
    simp at a0
    have ea : Addr.add (Addr.add ⟨b, o, none⟩ i) 0 = ⟨b, o + i, none⟩ := by
      unfold Addr.add
      by_cases h1 : i = 0 <;> simp [h1]
    rw [ea] at a0
    have hb : b < W.heap.size := by
      rcases Nat.lt_or_ge b W.heap.size with hlt | hge
      · exact hlt
      · unfold World.cell? at a0
        rw [Array.getElem?_eq_none hge] at a0
        cases a0
    have hv := bounds_u16 w1
    refine ⟨b, o, v.toNat, rfl, hb, ?_, by omega⟩
    rw [show ((v.toNat : Nat) : Int) = v by omega]
    exact a0

section
variable {n : Nat} {s : St} {size : Int}
/-- A block that was taken. -/
structure Got (n : Nat) (s : St) (size : Int) (k a : Nat) (l : List Nat) (s1 : St) : Prop where
  ok : alOk size = true
  val : alV n s size = a
  st : alS n s size = popG s1 k
  at_ : s1 k = (clsOf size, a :: l)
  inv : Inv0 n s1
  mem : a ∈ blks k (clsOf size)
  lt : k < n
  pos : 0 < k
  oth : ∀ i, i ≠ k → s1 i = s i
  from_ : (s k = (clsOf size, a :: l) ∧ s1 = s) ∨ ((s k).1 = 0 ∧ s1 = asg s k (clsOf size) ∧ a = 512 * k)
theorem al_got (hI : Inv n s) (h : alE n s size = 0) : ∃ k a l s1, Got n s size k a l s1 := by
  have hok : alOk size = true := by
    cases hok : alOk size with
    | true => rfl
    | false => unfold alE at h; rw [hok] at h; simp at h
  have hC := clsOf_isC size
  have hI0 := hI.toInv0
  cases hp : pgOf n s (clsOf size) with
  | some k =>
    obtain ⟨hk, a, l, hs⟩ := pgOf_spec hp
    have hal : alP n s size = some (k, s) := by unfold alP; rw [hp]
    have ha : a ∈ blks k (s k).1 := hI0.free k a (by rw [hs]; simp)
    have hpl := page_lt hI0 ha
    rw [hs] at ha
    exact ⟨k, a, l, s, hok, by unfold alV; rw [hok, hal]; dsimp only; rw [hs]; rfl, by unfold alS; rw [hok, hal]; rfl, hs, hI0, ha, hk, hpl.1, fun _ _ => rfl, .inl ⟨hs, rfl⟩⟩
  | none =>
    cases hw : pgNew n s with
    | none =>
      have hal : alP n s size = none := by unfold alP; rw [hp, hw]
      unfold alE at h
      rw [hok, hal] at h
      simp at h
    | some k =>
      obtain ⟨hk, hk0, hs0⟩ := new_spec hw
      have hal : alP n s size = some (k, asg s k (clsOf size)) := by unfold alP; rw [hp, hw]
      obtain ⟨l, hl⟩ := blks_cons k hC
      exact ⟨k, 512 * k, l, asg s k (clsOf size), hok, by unfold alV; rw [hok, hal]; dsimp only; rw [asg_at, hl]; rfl, by unfold alS; rw [hok, hal]; rfl, by rw [asg_at, hl], inv0_asg hI0 hk0 hk hC, by rw [hl]; simp, hk, by omega, fun i hi => asg_other hi, .inr ⟨hs0, rfl, rfl⟩⟩
theorem al_err (h : alOk size = true) : alE n s size = 0 ∨ (alE n s size = 5 ∧ alS n s size = s) := by
  unfold alE alS
  rw [h]
  simp only [if_true]
  cases alP n s size with
  | some p => exact .inl rfl
  | none => exact .inr ⟨rfl, rfl⟩
theorem alOk_mk {m : Nat} (h : m < 256) : alOk (1 + (m : Int)) = true := by unfold alOk; rw [decide_eq_true (by omega), decide_eq_true (by omega)]; rfl

variable {k a : Nat} {l : List Nat} {s1 : St}
theorem Got.after (h : Got n s size k a l s1) : alS n s size k = (clsOf size, l) := by rw [h.st]; exact popG_at h.at_
theorem Got.other (h : Got n s size k a l s1) {i : Nat} (hi : i ≠ k) : alS n s size i = s i := by rw [h.st, popG_other hi, h.oth i hi]
theorem Got.fresh (h : Got n s size k a l s1) : a ∉ l := nodup_head (by have := h.inv.once k; rw [h.at_] at this; exact this)
theorem Got.tkn (h : Got n s size k a l s1) : Tkn (alS n s size) k a := ⟨by rw [h.after]; exact h.mem, by rw [h.after]; exact h.fresh⟩
theorem Got.page (h : Got n s size k a l s1) : a / 512 = k ∧ a % clsOf size = 0 ∧ a + clsOf size ≤ 512 * k + 512 ∧ 512 * k ≤ a := by
  obtain ⟨j, hj, e⟩ := mem_blks.1 h.mem
  have := mem_le (clsOf_isC size) h.mem
  refine ⟨?_, by rw [e]; exact blk_mod (clsOf_isC size), this.2, this.1⟩
  rw [e]
  exact blk_page (clsOf_isC size) hj
/-- A taken block is told. -/
theorem isB_tkn {i a : Nat} (hI : Inv0 n s) (h : Tkn s i a) : isB n s a = true ∧ bkV n s a = (s i).1 ∧ a / 512 = i := by
  have hC := isC_of hI h.1
  obtain ⟨j, hj, e⟩ := mem_blks.1 h.1
  have hp : a / 512 = i := by rw [e]; exact blk_page hC hj
  have hm : a % (s i).1 = 0 := by rw [e]; exact blk_mod hC
  have hle := mem_le hC h.1
  have hlt := (page_lt hI h.1).2
  have hb := hC.bd
  have : isB n s a = true := by
    rw [isB_nat, hp, decide_eq_true hm, decide_eq_false h.2, decide_eq_true (by omega), decide_eq_false (by omega)]
    rfl
  refine ⟨this, ?_, hp⟩
  unfold bkV
  rw [this, Int.toNat_natCast, hp]
  rfl
theorem clsOf_two {m : Nat} (h : m < 256) : clsOf (1 + (m : Int)) ≤ 16 ∨ (clsOf (1 + (m : Int)) : Int) < 2 * (1 + (m : Int)) := by
  unfold clsOf
  (repeat' split) <;> omega
end
end Go.Proofs.YthblpnnbkjhmhaaDoor
