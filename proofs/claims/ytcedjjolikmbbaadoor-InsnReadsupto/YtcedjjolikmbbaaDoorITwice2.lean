/- Read of Text, and Text of Read, are the same again: in the mind. Condition: the instruction's numbers fit their kinds. -/
import Derived.Test.YtcedjjolikmbbaaDoorITwice
namespace Go.Proofs.YtcedjjolikmbbaaDoor
set_option maxRecDepth 100000
set_option maxHeartbeats 4000000

theorem in_ext {i j : In} (h0 : i.op = j.op) (h : ∀ q, 1 ≤ q → q ≤ 4 → opAt i q = opAt j q) : i = j := by
  have h1 := h 1 (by omega) (by omega)
  have h2 := h 2 (by omega) (by omega)
  have h3 := h 3 (by omega) (by omega)
  have h4 := h 4 (by omega) (by omega)
  simp [opAt] at h1 h2 h3 h4
  obtain ⟨_, _, _, _, _⟩ := i
  obtain ⟨_, _, _, _, _⟩ := j
  simp_all
theorem op_wOp (i : In) (p v : Nat) : (wOp i p v).op = i.op := by
  unfold wOp
  repeat' split
  all_goals rfl
theorem at_other {i : In} {p q v : Nat} (h : p ≠ q) : opAt (wOp i p v) q = opAt i q := by
  unfold wOp opAt
  repeat' split
  all_goals first | rfl | omega
theorem at_same {i : In} {p v : Nat} (h1 : 1 ≤ p) (h2 : p ≤ 4) (h : p = 4 ∨ v < 256) : opAt (wOp i p v) p = v := by
  rcases (show p = 1 ∨ p = 2 ∨ p = 3 ∨ p = 4 by omega) with rfl | rfl | rfl | rfl
  · simp [wOp, opAt]; omega
  · simp [wOp, opAt]; omega
  · simp [wOp, opAt]; omega
  · simp [wOp, opAt]
/-- Each word's place is one of the four, has room for its range, and is met once. -/
def good : List (Nat × Nat) → Bool
  | [] => true
  | o :: r => (!hw o.1 o.2 || (decide (1 ≤ o.1 ∧ o.1 ≤ 4 ∧ (o.1 = 4 ∨ highN o.2 ≤ 255)) && r.all fun x => !hw x.1 x.2 || decide (x.1 ≠ o.1))) && good r
theorem good_row : ∀ op : Fin 16, good (rowN op.val) = true := by decide +kernel
theorem rdL_out : ∀ (l : List (Nat × Nat)) (i : In) (ws : List (List UInt8)) (j : In), rdL l i ws = some j → j.op = i.op ∧ ∀ q, (∀ o ∈ l, hw o.1 o.2 = true → o.1 ≠ q) → opAt j q = opAt i q
  | [], i, ws, j, h => by
    unfold rdL at h
    split at h
    · simp at h; subst h; exact ⟨rfl, fun _ _ => rfl⟩
    · cases h
  | o :: r, i, ws, j, h => by
    unfold rdL at h
    split at h
    · rename_i hh
      cases ws with
      | nil => cases h
      | cons w t =>
        simp only at h
        cases hv : rw o.2 w with
        | none => rw [hv] at h; cases h
        | some v =>
          rw [hv] at h
          obtain ⟨h1, h2⟩ := rdL_out r _ t j h
          rw [op_wOp] at h1
          refine ⟨h1, fun q hq => ?_⟩
          rw [h2 q (fun x hx => hq x (List.mem_cons_of_mem _ hx)), at_other (hq o (List.mem_cons_self ..) hh)]
    · obtain ⟨h1, h2⟩ := rdL_out r i ws j h
      exact ⟨h1, fun q hq => h2 q (fun x hx => hq x (List.mem_cons_of_mem _ hx))⟩
theorem rdL_in : ∀ (l : List (Nat × Nat)) (i : In) (ws : List (List UInt8)) (j : In), good l = true → rdL l i ws = some j → ws = tws j l ∧ ∀ o ∈ l, hw o.1 o.2 = true → inR o.2 (opAt j o.1) = true
  | [], i, ws, j, _, h => by
    unfold rdL at h
    split at h
    · rename_i e; exact ⟨e, fun o ho => by cases ho⟩
    · cases h
  | o :: r, i, ws, j, hg, h => by
    unfold rdL at h
    unfold good at hg
    split at h
    · rename_i hh
      cases ws with
      | nil => cases h
      | cons w t =>
        simp only at h
        cases hv : rw o.2 w with
        | none => rw [hv] at h; cases h
        | some v =>
          rw [hv] at h
          simp only at h
          simp [hh] at hg
          obtain ⟨⟨⟨g1, g2, g3⟩, g4⟩, g5⟩ := hg
          obtain ⟨h1, h2⟩ := rdL_in r _ t j g5 h
          obtain ⟨e1, e2⟩ := rw_inv hv
          have hle : v ≤ highN o.2 := by simp [inR] at e2; exact e2.2
          have ev : opAt j o.1 = v := by
            rw [(rdL_out r _ t j h).2 o.1 (fun x hx hxh => by
              have := g4 x.1 x.2 hx
              rcases this with hf | hf
              · rw [hf] at hxh; cases hxh
              · exact hf)]
            exact at_same g1 g2 (by omega)
          refine ⟨?_, fun x hx hxh => ?_⟩
          · unfold tws
            rw [if_pos hh, ev, e1, ← h1]
          · rcases List.mem_cons.1 hx with rfl | hx
            · rw [ev]; exact e2
            · exact h2 x hx hxh
    · rename_i hh
      have hf : hw o.1 o.2 = false := by simpa using hh
      simp [hf] at hg
      obtain ⟨h1, h2⟩ := rdL_in r i ws j hg h
      refine ⟨?_, fun x hx hxh => ?_⟩
      · unfold tws
        rw [if_neg hh]; exact h1
      · rcases List.mem_cons.1 hx with rfl | hx
        · rw [hf] at hxh; cases hxh
        · exact h2 x hx hxh
/-- The places of the words, set as i has them. -/
def setL (i : In) : List (Nat × Nat) → In → In
  | [], r => r
  | o :: l, r => if hw o.1 o.2 = true then setL i l (wOp r o.1 (opAt i o.1)) else setL i l r
theorem rdL_tws (i : In) (hi : i.ok) : ∀ (l : List (Nat × Nat)) (r : In), (∀ o ∈ l, inR o.2 (opAt i o.1) = true) → rdL l r (tws i l) = some (setL i l r)
  | [], r, _ => by simp [rdL, tws, setL]
  | o :: l, r, h => by
    have ho := h o (List.mem_cons_self ..)
    have hl := fun x hx => h x (List.mem_cons_of_mem _ hx)
    unfold rdL tws setL
    split
    · have := rw_wd o.2 (opAt i o.1) (by
        by_cases e : o.2 = 9
        · right
          rw [e] at ho
          simpa [inR, lowN, lowT, highN, highT] using ho
        · exact Or.inl e) ho (opAt_lt hi _)
      simp only
      rw [this]
      exact rdL_tws i hi l _ hl
    · exact rdL_tws i hi l r hl
theorem setL_op (i : In) : ∀ (l : List (Nat × Nat)) (r : In), (setL i l r).op = r.op
  | [], r => rfl
  | o :: l, r => by
    unfold setL
    split
    · rw [setL_op i l, op_wOp]
    · exact setL_op i l r
theorem at_small {i : In} (hi : i.ok) {q : Nat} (h : q ≤ 3) : opAt i q < 256 := by
  obtain ⟨_, _, _, _, _⟩ := hi
  unfold opAt
  repeat' split
  all_goals omega
theorem setL_at (i : In) (hi : i.ok) (q : Nat) (h1 : 1 ≤ q) (h4 : q ≤ 4) : ∀ (l : List (Nat × Nat)) (r : In), ((∃ o ∈ l, hw o.1 o.2 = true ∧ o.1 = q) ∨ opAt r q = opAt i q) → opAt (setL i l r) q = opAt i q
  | [], r, h => by
    rcases h with ⟨o, ho, _⟩ | h
    · cases ho
    · exact h
  | o :: l, r, h => by
    unfold setL
    split
    · rename_i hh
      apply setL_at i hi q h1 h4 l
      by_cases e : o.1 = q
      · right
        rw [e]
        exact at_same h1 h4 (by
          by_cases e4 : q = 4
          · exact Or.inl e4
          · exact Or.inr (at_small hi (by omega)))
      · rcases h with ⟨x, hx, hxh, hxq⟩ | h
        · rcases List.mem_cons.1 hx with rfl | hx
          · exact absurd hxq e
          · exact Or.inl ⟨x, hx, hxh, hxq⟩
        · right
          rw [at_other e]; exact h
    · rename_i hh
      apply setL_at i hi q h1 h4 l
      rcases h with ⟨x, hx, hxh, hxq⟩ | h
      · rcases List.mem_cons.1 hx with rfl | hx
        · exact absurd hxh hh
        · exact Or.inl ⟨x, hx, hxh, hxq⟩
      · exact Or.inr h
theorem ckL_rest {i : In} : ∀ (l : List (Nat × Nat)) (r : In), ckL i l r = 0 → (∀ o ∈ l, inR o.2 (opAt i o.1) = true) ∧ ∀ q, (∀ o ∈ l, o.1 ≠ q) → opAt r q = 0
  | [], r, h => by
    unfold ckL at h
    split at h
    · rename_i e
      refine ⟨fun o ho => (by cases ho), fun q _ => ?_⟩
      rw [e]
      unfold opAt
      repeat' split
      all_goals rfl
    · cases h
  | o :: l, r, h => by
    unfold ckL at h
    split at h
    · rename_i hr
      obtain ⟨h1, h2⟩ := ckL_rest l _ h
      refine ⟨fun x hx => ?_, fun q hq => ?_⟩
      · rcases List.mem_cons.1 hx with rfl | hx
        · exact hr
        · exact h1 x hx
      · have := h2 q (fun x hx => hq x (List.mem_cons_of_mem _ hx))
        rw [at_other (hq o (List.mem_cons_self ..))] at this
        exact this
    · cases h
theorem ckL_zero {i : In} : ∀ (l : List (Nat × Nat)) (r : In), r.op = i.op → (∀ o ∈ l, inR o.2 (opAt i o.1) = true) → (∀ q, 1 ≤ q → q ≤ 4 → (∀ o ∈ l, o.1 ≠ q) → opAt r q = 0) → ckL i l r = 0
  | [], r, h0, _, h2 => by
    have e : r = ⟨i.op, 0, 0, 0, 0⟩ := in_ext h0 fun q h1 h4 => by
      rw [h2 q h1 h4 (fun o ho => by cases ho)]
      unfold opAt
      repeat' split
      all_goals rfl
    unfold ckL
    rw [if_pos e]
  | o :: l, r, h0, h1, h2 => by
    unfold ckL
    rw [if_pos (h1 o (List.mem_cons_self ..))]
    refine ckL_zero l _ (by rw [op_wOp]; exact h0) (fun x hx => h1 x (List.mem_cons_of_mem _ hx)) fun q hq1 hq4 hq => ?_
    by_cases e : o.1 = q
    · rw [e]
      exact at_same hq1 hq4 (Or.inr (by omega))
    · rw [at_other e]
      exact h2 q hq1 hq4 fun x hx => by
        rcases List.mem_cons.1 hx with rfl | hx
        · exact e
        · exact hq x hx
/-- The first operand's form. -/
def f0N (op : Nat) : Nat := ((rowN op).getD 0 (0, 0)).2
/-- What the first word tells of an instruction. -/
def fi (i : In) : In := ⟨i.op, 0, 0, if fwF (f0N i.op) = true then i.c else 0, 0⟩
theorem fw_fi (i : In) (h : i.op ≤ 15) : fw i = fw (fi i) := by
  obtain ⟨op, a, b, c, im⟩ := i
  simp only at h
  by_cases e3 : op = 3
  · subst e3; rfl
  by_cases e4 : op = 4
  · subst e4; rfl
  by_cases e6 : op = 6
  · subst e6; rfl
  by_cases e7 : op = 7
  · subst e7; rfl
  simp [fw, fi, e3, e4, e6, e7]
theorem fw_same {i j : In} (h : i.op ≤ 15) (h0 : i.op = j.op) (hc : fwF (f0N i.op) = true → i.c = j.c) : fw i = fw j := by
  rw [fw_fi i h, fw_fi j (by omega)]
  congr 1
  unfold fi
  rw [← h0]
  by_cases e : fwF (f0N i.op) = true
  · rw [if_pos e, if_pos e, hc e]
  · rw [if_neg e, if_neg e]
theorem look_all : ∀ op : Fin 16, ∀ c : Fin 12, 1 ≤ op.val → (fwF (f0N op.val) = true → 1 ≤ c.val ∧ c.val ≤ highN (f0N op.val)) → look (fw (fi ⟨op.val, 0, 0, c.val, 0⟩)) = some (fi ⟨op.val, 0, 0, c.val, 0⟩) := by decide +kernel
theorem fe_all : ∀ q ∈ feP 16, q.1 = fw q.2 ∧ 1 ≤ q.2.op ∧ q.2.op ≤ 15 ∧ q.2.a = 0 ∧ q.2.b = 0 ∧ q.2.im = 0 ∧ (fwF (f0N q.2.op) = true → 1 ≤ q.2.c ∧ q.2.c ≤ highN (f0N q.2.op)) ∧ (fwF (f0N q.2.op) = false → q.2.c = 0) := by decide +kernel
theorem fw_plain (i : In) : 32 ∉ fw i := by
  have h1 : ∀ l ∈ aluT, (32 : UInt8) ∉ l := by decide +kernel
  have h2 : ∀ l ∈ condT, (32 : UInt8) ∉ l := by decide +kernel
  have h3 : ∀ l ∈ opsT, (32 : UInt8) ∉ l := by decide +kernel
  have go : ∀ (T : List (List UInt8)), (∀ l ∈ T, (32 : UInt8) ∉ l) → ∀ c, (32 : UInt8) ∉ T.getD c [] := by
    intro T hT c
    rw [List.getD_eq_getElem?_getD]
    rcases e : T[c]? with _ | l
    · simp
    · exact hT l (List.mem_of_getElem? e)
  have g1 := go aluT h1 i.c
  have g2 := go condT h2 i.c
  have g3 := go opsT h3 i.op
  unfold fw
  repeat' split
  · exact g1
  · simp only [List.mem_append, not_or]; exact ⟨g1, by decide⟩
  · simp only [List.mem_cons, not_or]; exact ⟨by decide, g2⟩
  · simp only [List.mem_cons, List.mem_append, not_or]; exact ⟨by decide, g2, by decide⟩
  · exact g3
theorem tws_plain (i : In) : ∀ (l : List (Nat × Nat)), ∀ w ∈ tws i l, 32 ∉ w
  | [], w, h => by cases h
  | o :: r, w, h => by
    unfold tws at h
    split at h
    · rcases List.mem_cons.1 h with rfl | h
      · exact wd_plain _ _
      · exact tws_plain i r w h
    · exact tws_plain i r w h
/-- Where a row's operands stand: no word of its own has just the first one of an arithmetic's or a condition's row, at place 3, and those that stand nowhere. -/
theorem row_nw : ∀ op : Fin 16, ∀ o ∈ rowN op.val, hw o.1 o.2 = false → (o = (0, 0) ∨ (o = (3, f0N op.val) ∧ fwF (f0N op.val) = true)) := by decide +kernel
theorem row_fw3 : ∀ op : Fin 16, fwF (f0N op.val) = true → (3, f0N op.val) ∈ rowN op.val ∧ ∀ o ∈ rowN op.val, hw o.1 o.2 = true → o.1 ≠ 3 := by decide +kernel
theorem row_high : ∀ op : Fin 16, fwF (f0N op.val) = true → highN (f0N op.val) ≤ 11 ∧ lowN (f0N op.val) = 1 := by decide +kernel
theorem tx_ok {i : In} (h : ck i = 0) : tx i = jn (fw i :: tws i (rowN i.op)) := by
  unfold tx
  rw [if_pos h, txL_jn]
theorem ck_row {i : In} (h : ck i = 0) : (1 ≤ i.op ∧ i.op ≤ 15) ∧ ckL i (rowN i.op) i = 0 := by
  unfold ck at h
  split at h
  · cases h
  · exact ⟨by omega, h⟩
theorem rd_tx {i : In} (hi : i.ok) (h : ck i = 0) : rd (tx i) = some i := by
  obtain ⟨⟨h1, h15⟩, hc⟩ := ck_row h
  obtain ⟨hin, hz⟩ := ckL_rest _ _ hc
  rw [tx_ok h]
  unfold rd
  rw [sp_jn _ (by simp) (fun w hw => by
    rcases List.mem_cons.1 hw with rfl | hw
    · exact fw_plain i
    · exact tws_plain i _ w hw)]
  simp only
  have hop : i.op < 16 := by omega
  have hlook : look (fw i) = some (fi i) := by
    rw [fw_fi i h15]
    by_cases e : fwF (f0N i.op) = true
    · have h3 := hin _ (row_fw3 ⟨i.op, hop⟩ e).1
      have hb := row_high ⟨i.op, hop⟩ e
      simp [inR, opAt] at h3
      simp only at hb
      have := look_all ⟨i.op, hop⟩ ⟨i.c, by omega⟩ h1 (fun _ => by simp only; omega)
      exact this
    · have := look_all ⟨i.op, hop⟩ ⟨0, by omega⟩ h1 (fun e2 => absurd e2 e)
      have e5 : fi i = fi ⟨i.op, 0, 0, 0, 0⟩ := by unfold fi; rw [if_neg e, if_neg e]
      rw [e5]
      exact this
  rw [hlook]
  simp only
  have hrow : rowN (fi i).op = rowN i.op := rfl
  rw [hrow, rdL_tws i hi _ _ hin]
  congr 1
  refine in_ext (by rw [setL_op]; rfl) fun q hq1 hq4 => ?_
  apply setL_at i hi q hq1 hq4
  by_cases ex : ∃ o ∈ rowN i.op, hw o.1 o.2 = true ∧ o.1 = q
  · exact Or.inl ex
  · right
    by_cases e : fwF (f0N i.op) = true ∧ q = 3
    · rw [e.2]
      simp [opAt, fi, e.1]
    · have z : opAt i q = 0 := hz q fun o ho eq => by
        cases hh : hw o.1 o.2 with
        | true => exact ex ⟨o, ho, hh, eq⟩
        | false =>
          rcases row_nw ⟨i.op, hop⟩ o ho hh with rfl | ⟨rfl, e2⟩
          · simp only at eq; omega
          · exact e ⟨e2, eq.symm⟩
      rw [z]
      rcases (show q = 1 ∨ q = 2 ∨ q = 3 ∨ q = 4 by omega) with rfl | rfl | rfl | rfl
      · rfl
      · rfl
      · have : ¬ fwF (f0N i.op) = true := fun e2 => e ⟨e2, rfl⟩
        simp [opAt, fi, this]
      · rfl
theorem wOp_ok2 {i : In} (h : i.ok) (p v : Nat) (hv : v < 4294967296) : (wOp i p v).ok := wOp_ok h p v hv
theorem high_lt : ∀ f : Nat, highN f < 4294967296 := by
  intro f
  unfold highN
  rw [List.getD_eq_getElem?_getD]
  rcases e : highT[f]? with _ | l
  · simp
  · have : ∀ l ∈ highT, l < 4294967296 := by decide
    exact this l (List.mem_of_getElem? e)
theorem rdL_ok : ∀ (l : List (Nat × Nat)) (i : In) (ws : List (List UInt8)) (j : In), i.ok → rdL l i ws = some j → j.ok
  | [], i, ws, j, hi, h => by
    unfold rdL at h
    split at h
    · simp at h; subst h; exact hi
    · cases h
  | o :: r, i, ws, j, hi, h => by
    unfold rdL at h
    split at h
    · cases ws with
      | nil => cases h
      | cons w t =>
        simp only at h
        cases hv : rw o.2 w with
        | none => rw [hv] at h; cases h
        | some v =>
          rw [hv] at h
          have e2 := (rw_inv hv).2
          have : v ≤ highN o.2 := by simp [inR] at e2; exact e2.2
          have := high_lt o.2
          exact rdL_ok r _ t j (wOp_ok hi _ _ (by omega)) h
    · exact rdL_ok r i ws j hi h
theorem tx_rd {s : List UInt8} {j : In} (h : rd s = some j) : j.ok ∧ ck j = 0 ∧ tx j = s := by
  unfold rd at h
  cases hs : sp s with
  | nil => exact absurd hs (sp_ne s)
  | cons w t =>
    rw [hs] at h
    simp only at h
    cases hl : look w with
    | none => rw [hl] at h; cases h
    | some i =>
      rw [hl] at h
      simp only at h
      unfold look lk at hl
      rw [Option.map_eq_some_iff] at hl
      obtain ⟨q, hq, hqi⟩ := hl
      have hm := List.mem_of_find?_eq_some hq
      have hqw : q.1 = w := by have := List.find?_some hq; simpa using this
      obtain ⟨e1, e2, e3, e4, e5, e6, e7, e8⟩ := fe_all q hm
      rw [hqi] at e1 e2 e3 e4 e5 e6 e7 e8
      have hop : i.op < 16 := by omega
      have hwi : fw i = w := by rw [← e1, hqw]
      have hiok : i.ok := by
        refine ⟨by omega, by omega, by omega, ?_, by omega⟩
        cases e : fwF (f0N i.op) with
        | true => have := e7 e; have hb := (row_high ⟨i.op, hop⟩ e).1; simp only at hb; omega
        | false => rw [e8 e]; omega
      obtain ⟨o1, o2⟩ := rdL_out _ _ _ _ h
      obtain ⟨n1, n2⟩ := rdL_in _ _ _ _ (good_row ⟨i.op, hop⟩) h
      have hj : j.ok := rdL_ok _ _ _ _ hiok h
      have hall : ∀ o ∈ rowN j.op, inR o.2 (opAt j o.1) = true := by
        intro o ho
        rw [o1] at ho
        cases hh : hw o.1 o.2 with
        | true => exact n2 o ho hh
        | false =>
          rcases row_nw ⟨i.op, hop⟩ o ho hh with rfl | ⟨rfl, e⟩
          · rfl
          · have h3 := o2 3 (row_fw3 ⟨i.op, hop⟩ e).2
            have hlo := (row_high ⟨i.op, hop⟩ e).2
            have := e7 e
            simp only at hlo ⊢
            rw [h3]
            simp [inR, opAt, hlo]
            exact this
      have hzero : ∀ q, 1 ≤ q → q ≤ 4 → (∀ o ∈ rowN j.op, o.1 ≠ q) → opAt j q = 0 := by
        intro q hq1 hq4 hq
        rw [o1] at hq
        rw [o2 q (fun o ho _ => hq o ho)]
        rcases (show q = 1 ∨ q = 2 ∨ q = 3 ∨ q = 4 by omega) with rfl | rfl | rfl | rfl
        · simpa [opAt] using e4
        · simpa [opAt] using e5
        · have : fwF (f0N i.op) = false := by
            cases e : fwF (f0N i.op) with
            | false => rfl
            | true => exact absurd rfl (hq _ (row_fw3 ⟨i.op, hop⟩ e).1)
          simpa [opAt] using e8 this
        · simpa [opAt] using e6
      have hck : ck j = 0 := by
        unfold ck
        rw [if_neg (by omega)]
        exact ckL_zero _ _ rfl hall hzero
      refine ⟨hj, hck, ?_⟩
      rw [tx_ok hck, o1, ← n1]
      have : fw j = w := by
        rw [← hwi]
        refine fw_same (by omega) o1 fun e => ?_
        rw [o1] at e
        have h3 := o2 3 (row_fw3 ⟨i.op, hop⟩ e).2
        simpa [opAt] using h3
      rw [this, ← hs, jn_sp]
/-- Two that may be have one text just if they are the same. -/
theorem tx_inj {i j : In} (hi : i.ok) (hj : j.ok) (h1 : ck i = 0) (h2 : ck j = 0) : tx i = tx j ↔ i = j := by
  constructor
  · intro e
    have a := rd_tx hi h1
    have b := rd_tx hj h2
    rw [e, b] at a
    exact (Option.some.inj a).symm
  · rintro rfl; rfl
end Go.Proofs.YtcedjjolikmbbaaDoor
