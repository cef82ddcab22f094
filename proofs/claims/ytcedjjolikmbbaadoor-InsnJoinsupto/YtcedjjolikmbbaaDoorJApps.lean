/- append of a slice of instructions onto a row that the call made; what the bytes of two programs are read as. No condition. -/
import Derived.Test.YtcedjjolikmbbaaDoorIBytesM
import Derived.Test.YtcedjjolikmbbaaDoorIOpen2
namespace Go.Proofs.YtcedjjolikmbbaaDoor
open Go.RowKit Go.Deep
set_option maxRecDepth 100000
theorem ics_inv {l : List In} {j : Nat} {u : Value} (h : (ics l)[j]? = some u) : ∃ f, l[j / 5]? = some f ∧ (i5 f)[j % 5]? = some u := by
  have hj := (List.getElem?_eq_some_iff.1 h).1
  rw [ics_len] at hj
  have hl : j / 5 < l.length := by omega
  refine ⟨l[j / 5], List.getElem?_eq_getElem hl, ?_⟩
  have h5 : j % 5 < (i5 l[j / 5]).length := by simp only [i5, List.length_cons, List.length_nil]; omega
  have e := ics_at (List.getElem?_eq_getElem hl) (j % 5) _ (List.getElem?_eq_getElem h5)
  rw [show j / 5 * 5 + j % 5 = j by omega, h] at e
  rw [List.getElem?_eq_getElem h5, ← e]
theorem Ri.nil0 {w : World} {k c : Nat} {l : List In} (h : Ri w none k c l) : l = [] := by
  cases l with
  | nil => rfl
  | cons x r => obtain ⟨_, _, e, _⟩ := h.cells 0 x rfl; cases e
theorem run_insapps {w : World} (base : Nat) (ty : TypeId) (v : Value) (xs : List In) (hown : Or w base v xs) (A : Option Addr) (k c : Nat) (l : List In) (h : Ri w A k c l) (hbig : xs.length + k ≤ 1000000) (hbase : base ≤ w.heap.size) :
    ∃ v' w', (Builtin.append_ #[39, 39] ty #[v, .slice A k c]).run Tryd.prog w = .ok v' w' ∧ Or w' base v' (xs ++ l) ∧ w.grownBy w' v.ownBlock := by
  obtain ⟨i0, hi, hz0, hz1, hz2⟩ := info_parts infoI5
  have ht := Tryd.underlying39
  have hk := h.len
  cases A with
  | none =>
    have hl := h.nil0
    subst hl
    obtain rfl : k = 0 := by simpa using hk.symm
    refine ⟨v, w, ?_, by rw [List.append_nil]; exact hown, ⟨rfl, rfl, rfl, Nat.le_refl _, fun _ _ _ => rfl⟩⟩
    have hs' := Src.ofNil (P := Tryd.prog) (size := i0.size) w Tryd.underlying39 c
    have hl := hs'.len
    have hc := hs'.cells
    rcases hown.2 with ⟨rfl, hx⟩ | ⟨g, cap, cur, rfl, _, _, hnc, _⟩
    · simp [Builtin.append_, run_underlying ht, sizeOf, typeInfo, hi, hl, hc]
    · simp [Builtin.append_, run_underlying ht, sizeOf, typeInfo, hi, hl, hc, hnc, storeCells]
  | some a =>
    obtain ⟨v', w', hr, ho, hg, _⟩ := run_append_own (P := Tryd.prog) w base 39 ty 24 i0 _ 5 8 ht hi hz0 hz1 hz2 (by kernel_rfl) (by decide) v xs.length (ics xs) hown a k c (ics l) (by rw [ics_len, hk]) (fun j u hu => by
      obtain ⟨f, hf, hq⟩ := ics_inv hu
      obtain ⟨b, o, e, _, _, c0, c1, c2, c3, c4⟩ := h.cells _ f hf
      injection e with e
      subst e
      rw [addr_add]
      have hj : j = j / 5 * 5 + j % 5 := by omega
      rcases (show j % 5 = 0 ∨ j % 5 = 1 ∨ j % 5 = 2 ∨ j % 5 = 3 ∨ j % 5 = 4 by omega) with e | e | e | e | e
      · rw [e] at hq hj; simp [i5] at hq; subst hq; rw [hj]; exact c0
      · rw [e] at hq hj; simp [i5] at hq; subst hq; rw [hj]; exact c1
      · rw [e] at hq hj; simp [i5] at hq; subst hq; rw [hj]; exact c2
      · rw [e] at hq hj; simp [i5] at hq; subst hq; rw [hj]; exact c3
      · rw [e] at hq hj; simp [i5] at hq; subst hq; rw [hj]; exact c4) (ics_one l) (by unfold maxLen; omega) (by omega) hbase
    refine ⟨v', w', hr, ?_, hg⟩
    unfold Or
    rw [ics_app, List.length_append, hk]
    exact ho
theorem wpList_insapps {w : World} {ops : Array Oper} {rest : List Oper} {o : Oper} {a : Act} {Q : Exit → Act → World → Prop} (hw : Region.wanted o (yielded ops a.tmps) = true) (s x : Operand)
    (ho : o.op = .call { callee := .builtin .append, args := #[s, x], argTypes := #[39, 39] })
    (base : Nat) (v : Value) (xs : List In) (hs : a.eval s = v) (hown : Or w base v xs) (A : Option Addr) (k c : Nat) (l : List In) (hx : a.eval x = .slice A k c) (h : Ri w A k c l) (hbig : xs.length + k ≤ 1000000) (hbase : base ≤ w.heap.size)
    (hh : ∀ v' w', Or w' base v' (xs ++ l) → Below base w w' → wpList Tryd.prog ops Q rest (a.put o.dst v') w') : wpList Tryd.prog ops Q (o :: rest) a w := by
  obtain ⟨v', w', hr, h2, h3⟩ := run_insapps base o.type v xs hown A k c l h hbig hbase
  have hb : Below base w w' := (Below.refl base w).grown h3 hbase fun k hk => (hown.lt hk).1
  refine wpList_step fun _ hK => ?_
  rw [if_pos hw]
  unfold Oper.wp execOp
  simp only [ho, resolve, invoke, builtin, Sem.run_bind, Sem.run_pure, Result.andThen_ok, List.map_toArray, List.map_cons, List.map_nil, hs, hx, hr]
  exact hK _ _ (hh v' w' h2 hb)
theorem or_zero {W : World} {B : Nat} (hB : B ≤ W.heap.size) : Or (W.alloc (.cells #[] 24)) B (.slice (some ⟨W.heap.size, 0, none⟩) 0 0) [] :=
  ⟨rfl, .inr ⟨W.heap.size, 0, _, rfl, hB, heap_alloc_new W _, Nat.le_refl _, by decide, rfl, rfl⟩⟩
theorem byI_app (l m : List In) : byI (l ++ m) = byI l ++ byI m := by simp [byI]
/-- Two programs, one behind the other. -/
theorem joins {l m : List In} (hl : ∀ i ∈ l, i.ok) (hm : ∀ i ∈ m, i.ok) (h1 : paE (byI l) = 0) (h2 : paE (byI m) = 0) (hn : l.length + m.length ≤ 128) : paE (byI l ++ byI m) = 0 ∧ paL (byI l ++ byI m) = l ++ m := by
  rw [paE_byI hl] at h1
  rw [paE_byI hm] at h2
  rw [if_neg (by omega)] at h1 h2
  have hok : ∀ i ∈ l ++ m, i.ok := fun i hi => by
    rcases List.mem_append.1 hi with h | h
    · exact hl i h
    · exact hm i h
  have e : paE (byI (l ++ m)) = 0 := by
    rw [paE_byI hok, if_neg (by rw [List.length_append]; omega), fe1_app _ _ (fe1_all h1)]
    exact h2
  rw [← byI_app]
  refine ⟨e, ?_⟩
  unfold paL
  rw [if_pos e, dI_byI hok]
theorem paE_cut {bs : List Nat} (h : bs.length % 8 ≠ 0) : paE bs = 3 := by unfold paE; rw [if_pos h]
theorem bulk_one {H : Type} (d : DataW H) : 1 ≤ Rows.uptoBulk d := by
  cases d with
  | lit l => cases l <;> simp [Rows.uptoBulk]
  | _ => simp [Rows.uptoBulk]
theorem bulk_len {H : Type} : ∀ l : List (DataW H), l.length ≤ Rows.uptoBulkAll l
  | [] => by simp [Rows.uptoBulkAll]
  | d :: r => by
    have h1 := bulk_one d
    have h2 := bulk_len r
    simp only [Rows.uptoBulkAll, List.length_cons]
    omega
theorem insns_upto {H : Type} {enc : TypeId × Value → H} {W : World} {base : Nat} {sp : Nat → Bool} {held : Bool} {fuel : Nat} {A : Option Addr} {len cap : Nat} {d : DataW H} {ps : List MemPlace}
    (h : DataW.trod enc Tryd.prog W base sp held fuel 39 (Value.cells (.slice A len cap)).toList = some (d, ps))
    (hw : Rows.uptoBulk d ≤ 1048576) : (∃ l, Ri W A len cap l) ∧ len ≤ 1048576 := by
  refine ⟨insns_of h, ?_⟩
  rcases open_slice Tryd.underlying39 h with ⟨h0, _⟩ | ⟨a, l, c, m, n, D, Pl, hcs, _, hl, hm, hmm, hx, _⟩
  · simp [Value.cells] at h0
    omega
  · simp [Value.cells] at hcs
    obtain ⟨rfl, rfl, rfl⟩ := hcs
    injection hx with hx _
    rw [hx] at hw
    simp only [Rows.uptoBulk] at hw
    have h3 := bulk_len (List.map D (List.range len))
    rw [List.length_map, List.length_range] at h3
    first
    | omega
    | (have h4 : len ≤ 1048576 := by
        refine Nat.le_trans h3 (Nat.le_trans ?_ hw)
        omega
       exact h4)
end Go.Proofs.YtcedjjolikmbbaaDoor
