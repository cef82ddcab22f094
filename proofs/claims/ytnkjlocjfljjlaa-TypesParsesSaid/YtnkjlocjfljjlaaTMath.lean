/- Types in the mind: fields, types, the checks, the layout, the bytes. No program, no condition. -/
import Derived.Test.YtnkjlocjfljjlaaWMath
import Derived.Test.YtnkjlocjfljjlaaWWords
namespace Go.Proofs.Ytnkjlocjfljjlaa

structure Fd where
  kind : Int
  len : Int
  ty : Int
  link : Int
  key : Int
deriving DecidableEq
structure Ty where
  name : ByteArray
  value : Bool
  refs : Bool
  fields : List Fd

def Rg (x : Int) : Prop := -9223372036854775808 ≤ x ∧ x ≤ 9223372036854775807
structure Fd.ok (f : Fd) : Prop where
  kind : Rg f.kind
  len : Rg f.len
  ty : Rg f.ty
  link : Rg f.link
  key : Rg f.key

/-! ### the first that fails -/
def firstE {α : Type} (g : α → Nat) : List α → Nat
  | [] => 0
  | x :: r => if g x = 0 then firstE g r else g x
theorem firstE_end {α : Type} {g : α → Nat} : ∀ {l : List α}, (∀ (j : Nat) (y : α), l[j]? = some y → g y = 0) → firstE g l = 0
  | [], _ => rfl
  | x :: r, h => by
    unfold firstE
    rw [if_pos (h 0 x rfl)]
    exact firstE_end fun j y hy => h (j + 1) y (by simpa using hy)
theorem firstE_at {α : Type} {g : α → Nat} {x : α} : ∀ {l : List α} {k : Nat}, (∀ (j : Nat) (y : α), j < k → l[j]? = some y → g y = 0) → l[k]? = some x → g x ≠ 0 → firstE g l = g x
  | [], k, _, hx, _ => by simp at hx
  | y :: r, 0, _, hx, hg => by
    simp at hx
    subst hx
    unfold firstE
    rw [if_neg hg]
  | y :: r, k + 1, h, hx, hg => by
    unfold firstE
    rw [if_pos (h 0 y (by omega) rfl)]
    exact firstE_at (k := k) (fun j z hj hz => h (j + 1) z (by omega) (by simpa using hz)) (by simpa using hx) hg
theorem firstE_zero {α : Type} {g : α → Nat} : ∀ {l : List α}, firstE g l = 0 → ∀ x ∈ l, g x = 0
  | [], _, x, hx => by cases hx
  | y :: r, h, x, hx => by
    unfold firstE at h
    split at h
    · rename_i h0
      rcases List.mem_cons.1 hx with rfl | hm
      · exact h0
      · exact firstE_zero h x hm
    · rename_i h0
      exact absurd h h0
theorem firstE_mem {α : Type} {g : α → Nat} : ∀ {l : List α}, firstE g l ≠ 0 → ∃ x ∈ l, g x = firstE g l
  | [], h => by simp [firstE] at h
  | y :: r, h => by
    unfold firstE at h ⊢
    split
    · rename_i h0
      rw [if_pos h0] at h
      obtain ⟨x, hx, e⟩ := firstE_mem h
      exact ⟨x, by simp [hx], e⟩
    · exact ⟨y, by simp, rfl⟩
/-- The first number below n at which g is not nought. -/
def findE (g : Nat → Nat) (n : Nat) : Option Nat := (List.range n).find? fun i => g i != 0
theorem findE_none {g : Nat → Nat} {n : Nat} (h : ∀ j, j < n → g j = 0) : findE g n = none := by
  unfold findE
  rw [List.find?_eq_none]
  intro x hx
  simp [h x (List.mem_range.1 hx)]
theorem findE_at {g : Nat → Nat} {n k : Nat} (hk : k < n) (h : ∀ j, j < k → g j = 0) (hg : g k ≠ 0) : findE g n = some k := by
  unfold findE
  rw [List.find?_range_eq_some]
  exact ⟨by simp [hg], List.mem_range.2 hk, fun j hj => by simp [h j hj]⟩
theorem findE_of_none {g : Nat → Nat} {n : Nat} (h : findE g n = none) : ∀ j, j < n → g j = 0 := by
  intro j hj
  unfold findE at h
  rw [List.find?_eq_none] at h
  simpa using h j (List.mem_range.2 hj)
theorem findE_of_some {g : Nat → Nat} {n k : Nat} (h : findE g n = some k) : k < n ∧ g k ≠ 0 ∧ ∀ j, j < k → g j = 0 := by
  unfold findE at h
  rw [List.find?_range_eq_some] at h
  exact ⟨List.mem_range.1 h.2.1, by simpa using h.1, fun j hj => by simpa using h.2.2 j hj⟩

/-! ### fields -/
def fsz (f : Fd) : Int :=
  if f.kind = 1 ∧ 1 ≤ f.len ∧ f.len ≤ 16 then 8 * f.len
  else if f.kind = 2 ∨ (5 ≤ f.kind ∧ f.kind ≤ 7) then 8
  else if f.kind = 3 then 16 else if f.kind = 4 then 24 else 0
theorem fsz_le (f : Fd) : 0 ≤ fsz f ∧ fsz f ≤ 128 := by unfold fsz; repeat' split <;> omega
theorem fsz_eight (f : Fd) : fsz f % 8 = 0 := by unfold fsz; repeat' split <;> omega
def kat (fs : List Fd) (i : Int) : Int := if i < 0 then 0 else match fs[i.toNat]? with | some f => f.kind | none => 0
def bel (v : Bool) (f : Fd) : Bool :=
  if f.kind = 1 then decide (f.ty = 0 ∧ f.link = 0 ∧ f.key = 0)
  else if f.kind = 2 then decide (f.len = 0 ∧ f.link = 0 ∧ f.key = 0)
  else if f.kind = 3 ∨ f.kind = 4 then decide (f.len = 0 ∧ f.ty = 0 ∧ f.link = 0 ∧ f.key = 0) && !v
  else if f.kind = 5 then decide (f.len = 0 ∧ f.key = 0) && v
  else if f.kind = 6 then decide (f.len = 0) && v
  else if f.kind = 7 then decide (f.len = 0 ∧ f.ty = 0 ∧ f.link = 0 ∧ f.key = 0) && v
  else false
def lead (f : Fd) (u : Ty) : Bool :=
  if u.value = true then false
  else if f.kind = 5 then decide (kat u.fields f.link = 3)
  else if f.kind = 6 then !u.refs && decide (kat u.fields f.link = 4) && decide (kat u.fields f.key = 1)
  else true
def tgt (ts : List Ty) (i : Int) : Option Ty := if i < 0 then none else ts[i.toNat]?
def fdE (ts : List Ty) (v : Bool) (f : Fd) : Nat :=
  if bel v f = false then 7
  else if f.kind = 1 then (if 1 ≤ f.len ∧ f.len ≤ 16 then 0 else 4)
  else if f.kind = 2 ∨ f.kind = 5 ∨ f.kind = 6 then (match tgt ts f.ty with | none => 4 | some u => if lead f u = true then 0 else 7)
  else 0
theorem fdE_cases (ts : List Ty) (v : Bool) (f : Fd) : fdE ts v f = 0 ∨ fdE ts v f = 4 ∨ fdE ts v f = 7 := by
  unfold fdE
  repeat' split
  all_goals simp
theorem fsz_of {ts : List Ty} {v : Bool} {f : Fd} (h : fdE ts v f = 0) : fsz f ≠ 0 := by
  unfold fdE at h
  split at h
  · cases h
  · rename_i hb
    unfold fsz
    split at h
    · rename_i h1
      split at h
      · rename_i h2
        rw [if_pos ⟨h1, h2⟩]
        omega
      · cases h
    · rename_i h1
      have hk : f.kind = 2 ∨ f.kind = 3 ∨ f.kind = 4 ∨ f.kind = 5 ∨ f.kind = 6 ∨ f.kind = 7 := by
        unfold bel at hb
        rw [if_neg h1] at hb
        repeat' (split at hb; omega)
        simp at hb
      repeat' split
      all_goals omega
theorem tgt_of {ts : List Ty} {v : Bool} {f : Fd} (h : fdE ts v f = 0) (hk : f.kind = 2) : ∃ n : Nat, f.ty = n ∧ n < ts.length := by
  unfold fdE at h
  split at h
  · cases h
  · rw [if_neg (by omega), if_pos (Or.inl hk)] at h
    unfold tgt at h
    by_cases hn : f.ty < 0
    · rw [if_pos hn] at h
      cases h
    · rw [if_neg hn] at h
      cases ht : ts[f.ty.toNat]? with
      | none => rw [ht] at h; cases h
      | some u => exact ⟨f.ty.toNat, by omega, (List.getElem?_eq_some_iff.1 ht).1⟩

/-! ### the layout -/
def szs : List Fd → Int
  | [] => 0
  | f :: r => fsz f + szs r
theorem szs_snoc (f : Fd) : ∀ l : List Fd, szs (l ++ [f]) = szs l + fsz f
  | [] => by simp [szs]
  | g :: r => by simp only [List.cons_append, szs, szs_snoc f r]; omega
theorem szs_le : ∀ l : List Fd, 0 ≤ szs l ∧ szs l ≤ 128 * l.length
  | [] => by simp [szs]
  | g :: r => by
    have := szs_le r
    have := fsz_le g
    simp only [szs, List.length_cons]
    omega
theorem take_snoc {α : Type} {l : List α} {k : Nat} {x : α} (h : l[k]? = some x) : l.take (k + 1) = l.take k ++ [x] := by
  rw [List.take_add_one, h]
  rfl
theorem szs_take {l : List Fd} {k : Nat} {f : Fd} (h : l[k]? = some f) : szs (l.take (k + 1)) = szs (l.take k) + fsz f := by rw [take_snoc h, szs_snoc]
def offs (a : Int) : List Fd → List Int
  | [] => []
  | f :: r => a :: offs (a + fsz f) r
theorem offs_snoc (f : Fd) : ∀ (l : List Fd) (a : Int), offs a (l ++ [f]) = offs a l ++ [a + szs l]
  | [], a => by simp [offs, szs]
  | g :: r, a => by
    simp only [List.cons_append, offs, offs_snoc f r, szs]
    rw [Int.add_assoc]
theorem offs_take {l : List Fd} {k : Nat} {f : Fd} (a : Int) (h : l[k]? = some f) : offs a (l.take (k + 1)) = offs a (l.take k) ++ [a + szs (l.take k)] := by rw [take_snoc h, offs_snoc]
theorem offs_len : ∀ (l : List Fd) (a : Int), (offs a l).length = l.length
  | [], _ => rfl
  | g :: r, a => by simp [offs, offs_len r]
theorem offs_at : ∀ (l : List Fd) (a : Int) (k : Nat), k < l.length → (offs a l)[k]? = some (a + szs (l.take k))
  | [], _, k, h => by simp at h
  | g :: r, a, 0, _ => by simp [offs, szs]
  | g :: r, a, k + 1, h => by
    have := offs_at r (a + fsz g) k (by simpa using h)
    simp only [offs, List.getElem?_cons_succ, this, List.take_succ_cons, szs]
    rw [Int.add_assoc]
def noS (f : Fd) : Nat := if fsz f = 0 then 7 else 0
def laE (fs : List Fd) : Nat := if 12 < fs.length then 11 else if firstE noS fs ≠ 0 then 7 else if 256 < 8 + szs fs then 11 else 0
def laV (fs : List Fd) : List Int := if laE fs = 0 then offs 8 fs else []
def laN (fs : List Fd) : Int := if laE fs = 0 then 8 + szs fs else 0
theorem laE_zero {fs : List Fd} (h : laE fs = 0) : fs.length ≤ 12 ∧ (∀ f ∈ fs, fsz f ≠ 0) ∧ 8 + szs fs ≤ 256 := by
  unfold laE at h
  split at h
  · cases h
  · split at h
    · cases h
    · rename_i h1 h2
      split at h
      · cases h
      · refine ⟨by omega, fun f hf h0 => ?_, by omega⟩
        have := firstE_zero (Decidable.not_not.1 h2) f hf
        unfold noS at this
        rw [if_pos h0] at this
        cases this

/-! ### a type -/
def isK (k : Int) (f : Fd) : Bool := decide (f.kind = k)
def isG (f : Fd) : Bool := decide (f.kind = 5 ∨ f.kind = 6)
def lks (fs : List Fd) : Nat := fs.countP (isK 7)
def grs (fs : List Fd) : Nat := fs.countP isG
theorem lks_take {l : List Fd} {k : Nat} {f : Fd} (h : l[k]? = some f) : lks (l.take (k + 1)) = lks (l.take k) + (if f.kind = 7 then 1 else 0) := by
  rw [take_snoc h, lks, List.countP_append, lks]
  simp [isK, List.countP_cons]
theorem grs_take {l : List Fd} {k : Nat} {f : Fd} (h : l[k]? = some f) : grs (l.take (k + 1)) = grs (l.take k) + (if f.kind = 5 ∨ f.kind = 6 then 1 else 0) := by
  rw [take_snoc h, grs, List.countP_append, grs]
  simp [isG, List.countP_cons]
theorem lks_le (fs : List Fd) : lks fs ≤ fs.length := List.countP_le_length
theorem grs_le (fs : List Fd) : grs fs ≤ fs.length := List.countP_le_length
def lkF (fs : List Fd) : Bool := decide (lks fs = 1 ∨ (lks fs = 0 ∧ grs fs = 0))
def tyE (ts : List Ty) (t : Ty) : Nat :=
  if 12 < t.fields.length then 11
  else if (t.value && t.refs) = true then 7
  else if firstE (fdE ts t.value) t.fields ≠ 0 then firstE (fdE ts t.value) t.fields
  else if lkF t.fields = false then 9
  else laE t.fields
theorem laE_of {ts : List Ty} {v : Bool} {fs : List Fd} (h : firstE (fdE ts v) fs = 0) (h2 : fs.length ≤ 12) : laE fs = if 256 < 8 + szs fs then 11 else 0 := by
  unfold laE
  rw [if_neg (by omega), if_neg]
  intro h3
  obtain ⟨f, hf, e⟩ := firstE_mem h3
  have := fsz_of (firstE_zero h f hf)
  unfold noS at e
  rw [if_neg this] at e
  exact h3 e.symm
open Classical in
noncomputable def dup (ts : List Ty) (i : Nat) (s : ByteArray) : Bool := (ts.take i).any fun u => decide (u.name = s)
theorem dup_true {ts : List Ty} {i j : Nat} {s : ByteArray} {u : Ty} (hj : j < i) (hu : ts[j]? = some u) (h : u.name = s) : dup ts i s = true := by
  unfold dup
  rw [List.any_eq_true]
  exact ⟨u, List.mem_of_getElem? (i := j) (by rw [List.getElem?_take_of_lt hj]; exact hu), by simp [h]⟩
theorem dup_false {ts : List Ty} {i : Nat} {s : ByteArray} (h : ∀ (j : Nat) (u : Ty), j < i → ts[j]? = some u → u.name ≠ s) : dup ts i s = false := by
  unfold dup
  rw [List.any_eq_false]
  intro u hu
  obtain ⟨j, hj⟩ := List.mem_iff_getElem?.1 hu
  have hlt : j < i := by
    have := (List.getElem?_eq_some_iff.1 hj).1
    simp at this
    omega
  rw [List.getElem?_take_of_lt hlt] at hj
  simpa using h j u hlt hj
theorem dup_of_false {ts : List Ty} {i : Nat} {s : ByteArray} (h : dup ts i s = false) {j : Nat} {u : Ty} (hj : j < i) (hu : ts[j]? = some u) : u.name ≠ s := by
  intro e
  rw [dup_true hj hu e] at h
  cases h
noncomputable def tpE (ts : List Ty) (i : Nat) : Nat := match ts[i]? with
  | none => 0
  | some t => if (dup ts i t.name || !nm (ofS t.name)) = true then 3 else tyE ts t
/-! ### reaching itself -/
def edge (ts : List Ty) (a b : Nat) : Prop := ∃ t f, ts[a]? = some t ∧ f ∈ t.fields ∧ f.kind = 2 ∧ f.ty = (b : Int)
open Classical in
noncomputable def reach (ts : List Ty) (i : Nat) : Bool := decide (Relation.TransGen (edge ts) i i)
noncomputable def rfE (ts : List Ty) (i : Nat) : Nat := match ts[i]? with
  | none => 0
  | some t => if (t.refs && reach ts i) = true then 7 else 0
noncomputable def ck (ts : List Ty) : Nat × Nat :=
  if 32 < ts.length then (0, 11)
  else match findE (tpE ts) ts.length with
    | some i => (i, tpE ts i)
    | none => match findE (rfE ts) ts.length with
      | some i => (i, 7)
      | none => (0, 0)
noncomputable def ckI (ts : List Ty) : Nat := (ck ts).1
noncomputable def ckE (ts : List Ty) : Nat := (ck ts).2
theorem ck_big {ts : List Ty} (h : 32 < ts.length) : ckI ts = 0 ∧ ckE ts = 11 := by unfold ckI ckE ck; rw [if_pos h]; exact ⟨rfl, rfl⟩
theorem ck_one {ts : List Ty} {i : Nat} (h : ¬ 32 < ts.length) (hi : i < ts.length) (hz : ∀ j, j < i → tpE ts j = 0) (he : tpE ts i ≠ 0) : ckI ts = i ∧ ckE ts = tpE ts i := by
  unfold ckI ckE ck
  rw [if_neg h, findE_at hi hz he]
  exact ⟨rfl, rfl⟩
theorem ck_two {ts : List Ty} {i : Nat} (h : ¬ 32 < ts.length) (hz : ∀ j, j < ts.length → tpE ts j = 0) (hi : i < ts.length) (hr : ∀ j, j < i → rfE ts j = 0) (he : rfE ts i ≠ 0) : ckI ts = i ∧ ckE ts = 7 := by
  unfold ckI ckE ck
  rw [if_neg h, findE_none hz]
  simp only
  rw [findE_at hi hr he]
  exact ⟨rfl, rfl⟩
theorem ck_ok {ts : List Ty} (h : ¬ 32 < ts.length) (hz : ∀ j, j < ts.length → tpE ts j = 0) (hr : ∀ j, j < ts.length → rfE ts j = 0) : ckI ts = 0 ∧ ckE ts = 0 := by
  unfold ckI ckE ck
  rw [if_neg h, findE_none hz]
  simp only
  rw [findE_none hr]
  exact ⟨rfl, rfl⟩
theorem ck_zero {ts : List Ty} (h : ckE ts = 0) : ts.length ≤ 32 ∧ (∀ j, j < ts.length → tpE ts j = 0) ∧ (∀ j, j < ts.length → rfE ts j = 0) := by
  unfold ckE ck at h
  by_cases h0 : 32 < ts.length
  · rw [if_pos h0] at h; cases h
  · rw [if_neg h0] at h
    cases h1 : findE (tpE ts) ts.length with
    | some i =>
      rw [h1] at h
      exact absurd h (findE_of_some h1).2.1
    | none =>
      rw [h1] at h
      simp only at h
      cases h2 : findE (rfE ts) ts.length with
      | some i => rw [h2] at h; cases h
      | none => exact ⟨by omega, findE_of_none h1, findE_of_none h2⟩
theorem tyE_zero {ts : List Ty} {t : Ty} (h : tyE ts t = 0) : t.fields.length ≤ 12 ∧ (t.value && t.refs) = false ∧ (∀ f ∈ t.fields, fdE ts t.value f = 0) ∧ lkF t.fields = true ∧ laE t.fields = 0 := by
  unfold tyE at h
  split at h
  · cases h
  · split at h
    · cases h
    · split at h
      · rename_i h1; exact absurd h h1
      · rename_i h1
        split at h
        · cases h
        · rename_i h2 h3 h4
          exact ⟨by omega, by simpa using h3, firstE_zero (Decidable.not_not.1 h1), by simpa using h4, h⟩
theorem tpE_zero {ts : List Ty} {i : Nat} {t : Ty} (h : tpE ts i = 0) (ht : ts[i]? = some t) : dup ts i t.name = false ∧ nm (ofS t.name) = true ∧ tyE ts t = 0 := by
  unfold tpE at h
  rw [ht] at h
  simp only at h
  split at h
  · cases h
  · rename_i h1
    simp at h1
    exact ⟨h1.1, h1.2, h⟩
/-- A pointer has a target, in every type that passed. -/
def Pok (ts : List Ty) : Prop := ∀ t ∈ ts, ∀ f ∈ t.fields, f.kind = 2 → ∃ n : Nat, f.ty = n ∧ n < ts.length
theorem pok_of {ts : List Ty} (h : ∀ j, j < ts.length → tpE ts j = 0) : Pok ts := by
  intro t ht f hf hk
  obtain ⟨i, hi⟩ := List.mem_iff_getElem?.1 ht
  have hl := (List.getElem?_eq_some_iff.1 hi).1
  exact tgt_of ((tyE_zero (tpE_zero (h i hl) hi).2.2).2.2.1 f hf) hk
theorem tpE_le (ts : List Ty) (i : Nat) : tpE ts i ≤ 11 := by
  unfold tpE
  split
  · omega
  · split
    · omega
    · unfold tyE laE
      repeat' split
      all_goals try omega
      rename_i t _ _ _ _ h
      obtain ⟨f, _, e⟩ := firstE_mem h
      have := fdE_cases ts t.value f
      omega
theorem ckE_le (ts : List Ty) : ckE ts ≤ 11 := by
  unfold ckE ck
  split
  · simp
  · split
    · exact tpE_le _ _
    · split <;> simp
theorem ckI_le (ts : List Ty) : ckI ts ≤ 32 := by
  unfold ckI ck
  split
  · simp
  · split
    · rename_i h _ i hi
      have := (findE_of_some hi).1
      simp only
      omega
    · split
      · rename_i h _ _ _ i hi
        have := (findE_of_some hi).1
        simp only
        omega
      · simp
end Go.Proofs.Ytnkjlocjfljjlaa
