/- Varints, names and lists in the mind: lists of bytes. No condition. -/
import Derived.WalkKit
namespace Go.Proofs.YtcedjjolikmbbaaDoor

def Byt (bs : List Nat) : Prop := ∀ x ∈ bs, x < 256

/-! ### Numbers -/
def num (n : Nat) : List Nat := if n < 128 then [n] else (128 + n % 128) :: num (n / 128)
termination_by n
decreasing_by omega

theorem num_lo {n : Nat} (h : n < 128) : num n = [n] := by rw [num, if_pos h]
theorem num_hi {n : Nat} (h : 128 ≤ n) : num n = (128 + n % 128) :: num (n / 128) := by rw [num, if_neg (by omega)]

theorem num_ind {P : Nat → Prop} (lo : ∀ n, n < 128 → P n) (hi : ∀ n, 128 ≤ n → P (n / 128) → P n) (n : Nat) : P n := by
  induction n using Nat.strongRecOn with
  | _ n ih =>
    by_cases h : n < 128
    · exact lo n h
    · exact hi n (by omega) (ih (n / 128) (by omega))

theorem num_byt (n : Nat) : Byt (num n) := by
  induction n using num_ind with
  | lo n h => rw [num_lo h]; intro x hx; simp at hx; omega
  | hi n h ih =>
    rw [num_hi h]
    intro x hx
    rcases List.mem_cons.1 hx with rfl | hx
    · omega
    · exact ih x hx
theorem num_pos (n : Nat) : 0 < (num n).length := by
  by_cases h : n < 128
  · rw [num_lo h]; simp
  · rw [num_hi (by omega)]; simp
theorem num_ne (n : Nat) : num n ≠ [] := by
  intro h
  have := num_pos n
  rw [h] at this
  simp at this
theorem num_len (m : Nat) : ∀ n, n < 128 ^ (m + 1) → (num n).length ≤ m + 1 := by
  induction m with
  | zero => intro n h; rw [num_lo (by omega)]; simp
  | succ m ih =>
    intro n h
    by_cases hl : n < 128
    · rw [num_lo hl]; simp
    · rw [num_hi (by omega)]
      have : n / 128 < 128 ^ (m + 1) := by
        rw [Nat.div_lt_iff_lt_mul (by decide), ← Nat.pow_succ]
        exact h
      have := ih _ this
      simp
      omega
theorem num_ten {n : Nat} (h : n < 18446744073709551616) : (num n).length ≤ 10 := num_len 9 n (by omega)
theorem num_five {n : Nat} (h : n ≤ 2147483647) : (num n).length ≤ 5 := num_len 4 n (by omega)
theorem num_two {n : Nat} (h : n ≤ 1000) : (num n).length ≤ 2 := num_len 1 n (by omega)

def val : List Nat → Nat
  | [] => 0
  | b :: bs => b % 128 + 128 * val bs

theorem val_num (n : Nat) : val (num n) = n := by
  induction n using num_ind with
  | lo n h => rw [num_lo h]; simp [val]; omega
  | hi n h ih => rw [num_hi h, val, ih]; omega
theorem num_inj {a b : Nat} (h : num a = num b) : a = b := by rw [← val_num a, ← val_num b, h]
theorem val_app (xs ys : List Nat) : val (xs ++ ys) = val xs + 128 ^ xs.length * val ys := by
  induction xs with
  | nil => simp [val]
  | cons x xs ih =>
    simp only [List.cons_append, val, ih, List.length_cons, Nat.pow_succ]
    rw [Nat.mul_add, Nat.mul_comm (128 ^ xs.length) 128, Nat.mul_assoc]
    omega
theorem val_lt (xs : List Nat) : val xs < 128 ^ xs.length := by
  induction xs with
  | nil => simp [val]
  | cons x xs ih =>
    simp only [val, List.length_cons, Nat.pow_succ]
    omega
theorem val_drop (xs : List Nat) (i : Nat) : val (xs.drop i) ≤ val xs := by
  induction xs generalizing i with
  | nil => simp
  | cons x xs ih =>
    cases i with
    | zero => simp
    | succ i =>
      have := ih i
      simp only [List.drop_succ_cons, val]
      omega
theorem val_at (xs : List Nat) (k : Nat) : (xs.getD k 0 % 128) * 128 ^ k ≤ val xs := by
  induction xs generalizing k with
  | nil => simp
  | cons x xs ih =>
    cases k with
    | zero => simp [val]
    | succ k =>
      have := ih k
      simp only [List.getD_cons_succ, val, Nat.pow_succ]
      rw [← Nat.mul_assoc]
      omega

/-- How many bytes of 128 or more stand first, m at the most. -/
def wid : Nat → List Nat → Nat
  | 0, _ => 0
  | _ + 1, [] => 0
  | m + 1, b :: bs => if b < 128 then 0 else wid m bs + 1

theorem wid_eq : ∀ (m : Nat) (bs : List Nat) (k : Nat), k ≤ m → k ≤ bs.length → (∀ j, j < k → 128 ≤ bs.getD j 0) → (k = m ∨ k = bs.length ∨ bs.getD k 0 < 128) → wid m bs = k := by
  intro m
  induction m with
  | zero => intro bs k h1 _ _ _; simp [wid]; omega
  | succ m ih =>
    intro bs k h1 h2 h3 h4
    cases bs with
    | nil => simp [wid]; simp at h2; omega
    | cons b bs =>
      cases k with
      | zero =>
        have : b < 128 := by simpa using h4
        simp [wid, this]
      | succ k =>
        have h0 : 128 ≤ b := by simpa using h3 0 (by omega)
        simp only [wid, if_neg (show ¬ b < 128 by omega)]
        rw [ih bs k (by omega) (by simpa using h2) (fun j hj => by simpa using h3 (j + 1) (by omega)) (by simpa using h4)]
theorem wid_spec : ∀ (m : Nat) (bs : List Nat), wid m bs ≤ m ∧ wid m bs ≤ bs.length ∧ (∀ j, j < wid m bs → 128 ≤ bs.getD j 0) ∧ (wid m bs = m ∨ wid m bs = bs.length ∨ bs.getD (wid m bs) 0 < 128) := by
  intro m
  induction m with
  | zero => intro bs; simp [wid]
  | succ m ih =>
    intro bs
    cases bs with
    | nil => simp [wid]
    | cons b bs =>
      by_cases hb : b < 128
      · simp [wid, hb]
      · obtain ⟨h1, h2, h3, h4⟩ := ih bs
        simp only [wid, if_neg hb]
        refine ⟨by omega, by simpa using h2, ?_, by simpa using h4⟩
        intro j hj
        cases j with
        | zero => simp; omega
        | succ j => simpa using h3 j (by omega)
theorem wid_num (m : Nat) : ∀ n r, n < 128 ^ (m + 1) → wid (m + 1) (num n ++ r) + 1 = (num n).length := by
  induction m with
  | zero =>
    intro n r h
    rw [num_lo (by omega)]
    simp [wid]; omega
  | succ m ih =>
    intro n r h
    by_cases hl : n < 128
    · rw [num_lo hl]; simp [wid, hl]
    · rw [num_hi (by omega)]
      have : n / 128 < 128 ^ (m + 1) := by
        rw [Nat.div_lt_iff_lt_mul (by decide), ← Nat.pow_succ]
        exact h
      have := ih (n / 128) r this
      simp only [List.cons_append, wid, if_neg (show ¬ 128 + n % 128 < 128 by omega), List.length_cons]
      omega

theorem getD_app (xs ys : List Nat) (j : Nat) (h : j < xs.length) : (xs ++ ys).getD j 0 = xs.getD j 0 := by
  simp [List.getD, List.getElem?_append_left h]
theorem getD_take (xs : List Nat) (c j : Nat) (h : j < c) : (xs.take c).getD j 0 = xs.getD j 0 := by
  simp [List.getD, h]
theorem byt_at {bs : List Nat} (h : Byt bs) (j : Nat) : bs.getD j 0 < 256 := by
  rcases Nat.lt_or_ge j bs.length with hlt | hge
  · rw [List.getD_eq_getElem?_getD, List.getElem?_eq_getElem hlt]
    exact h _ (List.getElem_mem hlt)
  · rw [List.getD_eq_getElem?_getD, List.getElem?_eq_none hge]; decide
theorem byt_drop {bs : List Nat} (h : Byt bs) (j : Nat) : Byt (bs.drop j) := fun x hx => h x (List.mem_of_mem_drop hx)
theorem byt_take {bs : List Nat} (h : Byt bs) (j : Nat) : Byt (bs.take j) := fun x hx => h x (List.mem_of_mem_take hx)
theorem byt_app {as bs : List Nat} (h : Byt as) (k : Byt bs) : Byt (as ++ bs) := fun x hx => (List.mem_append.1 hx).elim (h x) (k x)

theorem num_last (n : Nat) (h : 0 < n) : (num n).getD ((num n).length - 1) 0 ≠ 0 := by
  induction n using num_ind with
  | lo n hl => rw [num_lo hl]; simp; omega
  | hi n hl ih =>
    have ih := ih (by omega)
    have hp := num_pos (n / 128)
    rw [num_hi hl]
    simp only [List.length_cons, Nat.add_sub_cancel]
    rw [show (num (n / 128)).length = (num (n / 128)).length - 1 + 1 by omega, List.getD_cons_succ]
    exact ih
theorem num_long {n : Nat} (h : 1 < (num n).length) : 128 ≤ n := by
  rcases Nat.lt_or_ge n 128 with hlt | hge
  · rw [num_lo hlt] at h; simp at h
  · exact hge
theorem num_end {n : Nat} : (num n).getD ((num n).length - 1) 0 < 128 := by
  induction n using num_ind with
  | lo n hl => rw [num_lo hl]; simpa using hl
  | hi n hl ih =>
    have hp := num_pos (n / 128)
    rw [num_hi hl]
    simp only [List.length_cons, Nat.add_sub_cancel]
    rw [show (num (n / 128)).length = (num (n / 128)).length - 1 + 1 by omega, List.getD_cons_succ]
    exact ih
theorem num_high {n j : Nat} (hj : j + 1 < (num n).length) : 128 ≤ (num n).getD j 0 := by
  induction n using num_ind generalizing j with
  | lo n hl => rw [num_lo hl] at hj; simp at hj
  | hi n hl ih =>
    rw [num_hi hl] at hj ⊢
    cases j with
    | zero => simp
    | succ j =>
      rw [List.getD_cons_succ]
      exact ih (by simp at hj; omega)
theorem num_mono (a b : Nat) (h : a ≤ b) : (num a).length ≤ (num b).length := by
  induction b using num_ind generalizing a with
  | lo b hl => rw [num_lo hl, num_lo (show a < 128 by omega)]; simp
  | hi b hl ih =>
    rw [num_hi hl]
    by_cases ha : a < 128
    · rw [num_lo ha]; simp
    · rw [num_hi (show 128 ≤ a by omega)]
      have := ih (a / 128) (Nat.div_le_div_right h)
      simpa using this

/-- The document's TakeNumber: the number, how many bytes, the error. -/
def tk (bs : List Nat) : Nat × Nat × Nat :=
  if wid 10 bs = 10 then (0, 0, 3)
  else if wid 10 bs = bs.length then (0, 0, 2)
  else if bs.getD (wid 10 bs) 0 = 0 ∧ 0 < wid 10 bs then (0, 0, 3)
  else if wid 10 bs = 9 ∧ 1 < bs.getD (wid 10 bs) 0 then (0, 0, 4)
  else (val (bs.take (wid 10 bs + 1)), wid 10 bs + 1, 0)
def tN (bs : List Nat) : Nat := (tk bs).1
def tW (bs : List Nat) : Nat := (tk bs).2.1
def tE (bs : List Nat) : Nat := (tk bs).2.2
theorem tk_parts (bs : List Nat) : tk bs = (tN bs, tW bs, tE bs) := rfl

theorem tk_num {n : Nat} (hn : n < 18446744073709551616) (r : List Nat) : tk (num n ++ r) = (n, (num n).length, 0) := by
  have h1 : wid 10 (num n ++ r) + 1 = (num n).length := wid_num 9 n r (by omega)
  have hp := num_pos n
  have hk : wid 10 (num n ++ r) = (num n).length - 1 := by omega
  have h10 := num_ten hn
  have hg : (num n ++ r).getD ((num n).length - 1) 0 = (num n).getD ((num n).length - 1) 0 := getD_app _ _ _ (by omega)
  have hv := val_at (num n) ((num n).length - 1)
  rw [val_num] at hv
  have he := num_end (n := n)
  unfold tk
  rw [hk, if_neg (by omega), if_neg (by simp; omega), if_neg, if_neg]
  · rw [show (num n).length - 1 + 1 = (num n).length by omega, List.take_left, val_num]
  · rintro ⟨h9, hl⟩
    rw [hg] at hl
    rw [h9] at hv hl he
    rw [Nat.mod_eq_of_lt he] at hv
    omega
  · rintro ⟨hz, hl⟩
    rw [hg] at hz
    exact num_last n (by have := num_long (n := n) (by omega); omega) hz
theorem tk_cut {n : Nat} (hn : n < 18446744073709551616) (c : Nat) (hc : c < (num n).length) : tk ((num n).take c) = (0, 0, 2) := by
  have h10 := num_ten hn
  have hl : ((num n).take c).length = c := by simp; omega
  have hk : wid 10 ((num n).take c) = c := wid_eq 10 _ c (by omega) (by omega) (fun j hj => by rw [getD_take _ _ _ hj]; exact num_high (by omega)) (.inr (.inl hl.symm))
  unfold tk
  rw [hk, if_neg (by omega), if_pos hl.symm]

theorem num_of : ∀ (k : Nat) (bs : List Nat), Byt bs → k < bs.length → (∀ j, j < k → 128 ≤ bs.getD j 0) → bs.getD k 0 < 128 → (0 < k → bs.getD k 0 ≠ 0) → num (val (bs.take (k + 1))) = bs.take (k + 1) := by
  intro k
  induction k with
  | zero =>
    intro bs _ hl _ hz _
    cases bs with
    | nil => simp at hl
    | cons b bs =>
      have hb : b < 128 := by simpa using hz
      simp [val, Nat.mod_eq_of_lt hb, num_lo hb]
  | succ k ih =>
    intro bs hB hl hh hz hne
    cases bs with
    | nil => simp at hl
    | cons b bs =>
      have hb : 128 ≤ b := by simpa using hh 0 (by omega)
      have hb2 : b < 256 := hB b (by simp)
      have hz' : bs.getD k 0 < 128 := by simpa using hz
      have hne' : bs.getD k 0 ≠ 0 := by simpa using hne (by omega)
      have i := ih bs (fun x hx => hB x (by simp [hx])) (by simpa using hl) (fun j hj => by simpa using hh (j + 1) (by omega)) hz' (fun _ => hne')
      have hv := val_at (bs.take (k + 1)) k
      rw [getD_take _ _ _ (by omega), Nat.mod_eq_of_lt hz'] at hv
      have hp : 0 < bs.getD k 0 * 128 ^ k := Nat.mul_pos (by omega) (Nat.pow_pos (by decide))
      simp only [List.take_succ_cons, val]
      rw [num_hi (by omega)]
      rw [show (b % 128 + 128 * val (bs.take (k + 1))) / 128 = val (bs.take (k + 1)) by omega, i]
      congr 1
      omega

theorem tk_cases (bs : List Nat) (hB : Byt bs) :
    (tE bs = 0 ∧ tW bs ≤ 10 ∧ 0 < tW bs ∧ tW bs ≤ bs.length ∧ tN bs < 18446744073709551616 ∧ num (tN bs) = bs.take (tW bs)) ∨ ((tE bs = 2 ∨ tE bs = 3 ∨ tE bs = 4) ∧ tN bs = 0 ∧ tW bs = 0) := by
  obtain ⟨h1, h2, h3, h4⟩ := wid_spec 10 bs
  unfold tE tW tN tk
  by_cases c1 : wid 10 bs = 10
  · rw [if_pos c1]; simp
  rw [if_neg c1]
  by_cases c2 : wid 10 bs = bs.length
  · rw [if_pos c2]; simp
  rw [if_neg c2]
  have h5 : bs.getD (wid 10 bs) 0 < 128 := by rcases h4 with h | h | h <;> first | omega | exact h
  by_cases c3 : bs.getD (wid 10 bs) 0 = 0 ∧ 0 < wid 10 bs
  · rw [if_pos c3]; simp
  rw [if_neg c3]
  by_cases c4 : wid 10 bs = 9 ∧ 1 < bs.getD (wid 10 bs) 0
  · rw [if_pos c4]; simp
  rw [if_neg c4]
  refine .inl ⟨rfl, by simp only; omega, by simp only; omega, by simp only; omega, ?_, num_of _ bs hB (by omega) h3 h5 (fun hp hz => c3 ⟨hz, hp⟩)⟩
  have hlen : (bs.take (wid 10 bs + 1)).length = wid 10 bs + 1 := by simp; omega
  by_cases h9 : wid 10 bs = 9
  · have ht : bs.take (wid 10 bs + 1) = bs.take 9 ++ [bs.getD 9 0] := by
      rw [h9, List.take_add_one, List.getElem?_eq_getElem (show 9 < bs.length by omega)]
      simp [List.getD, List.getElem?_eq_getElem (show 9 < bs.length by omega)]
    rw [ht, val_app]
    have a := val_lt (bs.take 9)
    have hl9 : (bs.take 9).length = 9 := by simp; omega
    rw [hl9] at a ⊢
    have : bs.getD 9 0 ≤ 1 := by rw [h9] at c4; omega
    simp only [val]
    omega
  · have a := val_lt (bs.take (wid 10 bs + 1))
    rw [hlen] at a
    have : 128 ^ (wid 10 bs + 1) ≤ 128 ^ 9 := Nat.pow_le_pow_right (by decide) (by omega)
    omega

/-! ### Names -/
def okc (c : Nat) : Bool := decide (97 ≤ c ∧ c ≤ 122) || decide (65 ≤ c ∧ c ≤ 90) || decide (48 ≤ c ∧ c ≤ 57) || decide (c = 95)
def nm (bs : List Nat) : Bool := decide (1 ≤ bs.length ∧ bs.length ≤ 16) && bs.all okc
def txV (bs : List Nat) : List Nat := if nm bs = true then num bs.length ++ bs else []
def txE (bs : List Nat) : Nat := if nm bs = true then 0 else 1
def xE (bs : List Nat) : Nat :=
  if tE bs ≠ 0 then tE bs else if tN bs < 1 ∨ 16 < tN bs then 3 else if bs.length < tW bs + tN bs then 2 else if nm ((bs.drop (tW bs)).take (tN bs)) = true then 0 else 3
def xV (bs : List Nat) : List Nat := if xE bs = 0 then (bs.drop (tW bs)).take (tN bs) else []
def xW (bs : List Nat) : Nat := if xE bs = 0 then tW bs + tN bs else 0
theorem nm_len {bs : List Nat} (h : nm bs = true) : 1 ≤ bs.length ∧ bs.length ≤ 16 := by
  unfold nm at h
  simp only [Bool.and_eq_true, decide_eq_true_eq] at h
  exact h.1
theorem x_back {s : List Nat} (h : nm s = true) (r : List Nat) : xE (num s.length ++ s ++ r) = 0 ∧ xV (num s.length ++ s ++ r) = s ∧ xW (num s.length ++ s ++ r) = (num s.length ++ s).length := by
  have hl := nm_len h
  have ht := tk_num (n := s.length) (by omega) (s ++ r)
  rw [← List.append_assoc] at ht
  have hN : tN (num s.length ++ s ++ r) = s.length := by unfold tN; rw [ht]
  have hW : tW (num s.length ++ s ++ r) = (num s.length).length := by unfold tW; rw [ht]
  have hE : tE (num s.length ++ s ++ r) = 0 := by unfold tE; rw [ht]
  have hd : ((num s.length ++ s ++ r).drop (num s.length).length).take s.length = s := by rw [List.append_assoc, List.drop_left, List.take_left]
  have e : xE (num s.length ++ s ++ r) = 0 := by
    unfold xE
    rw [hE, hN, hW, hd, if_neg (by simp), if_neg (by omega), if_neg (by simp), if_pos h]
  refine ⟨e, ?_, ?_⟩
  · unfold xV; rw [if_pos e, hN, hW, hd]
  · unfold xW; rw [if_pos e, hN, hW]; simp
theorem x_cut {s : List Nat} (h : nm s = true) (c : Nat) (hc : c < (num s.length ++ s).length) : xE ((num s.length ++ s).take c) = 2 := by
  have hl := nm_len h
  by_cases hs : c < (num s.length).length
  · rw [List.take_append_of_le_length (by omega)]
    have ht := tk_cut (n := s.length) (by omega) c hs
    unfold xE
    have hE : tE ((num s.length).take c) = 2 := by unfold tE; rw [ht]
    rw [hE]; rfl
  · have e : (num s.length ++ s).take c = num s.length ++ s.take (c - (num s.length).length) := by
      rw [List.take_append, List.take_of_length_le (by omega)]
    rw [e]
    have ht := tk_num (n := s.length) (by omega) (s.take (c - (num s.length).length))
    generalize hx : num s.length ++ s.take (c - (num s.length).length) = x at ht ⊢
    have hN : tN x = s.length := by unfold tN; rw [ht]
    have hW : tW x = (num s.length).length := by unfold tW; rw [ht]
    have hE : tE x = 0 := by unfold tE; rw [ht]
    have hlen : x.length = c := by rw [← e] at hx; rw [← hx]; simp at hc ⊢; omega
    unfold xE
    rw [hE, hN, hW, if_neg (by simp), if_neg (by omega), if_pos]
    simp at hc
    omega
theorem x_cases (bs : List Nat) (hB : Byt bs) :
    (xE bs = 0 ∧ nm (xV bs) = true ∧ xW bs ≤ bs.length ∧ xW bs ≤ 26 ∧ txV (xV bs) = bs.take (xW bs)) ∨ (xE bs ≠ 0 ∧ xV bs = [] ∧ xW bs = 0) := by
  by_cases h : xE bs = 0
  · refine .inl ?_
    have hx : xE bs = 0 := h
    have hN0 : xV bs = (bs.drop (tW bs)).take (tN bs) := by unfold xV; rw [if_pos h]
    have hW0 : xW bs = tW bs + tN bs := by unfold xW; rw [if_pos h]
    unfold xE at h
    by_cases c1 : tE bs ≠ 0
    · rw [if_pos c1] at h; exact absurd h c1
    rw [if_neg c1] at h
    by_cases c2 : tN bs < 1 ∨ 16 < tN bs
    · rw [if_pos c2] at h; exact absurd h (by decide)
    rw [if_neg c2] at h
    by_cases c3 : bs.length < tW bs + tN bs
    · rw [if_pos c3] at h; exact absurd h (by decide)
    rw [if_neg c3] at h
    by_cases c4 : nm ((bs.drop (tW bs)).take (tN bs)) = true
    · rcases tk_cases bs hB with ⟨_, a1, a2, a3, a4, a5⟩ | ⟨a, _⟩
      · refine ⟨hx, by rw [hN0]; exact c4, by omega, by omega, ?_⟩
        have hl : ((bs.drop (tW bs)).take (tN bs)).length = tN bs := by simp; omega
        unfold txV
        rw [hN0, hW0, if_pos c4, hl, a5, List.take_add]
      · omega
    · rw [if_neg c4] at h; exact absurd h (by decide)
  · exact .inr ⟨h, by unfold xV; rw [if_neg h], by unfold xW; rw [if_neg h]⟩
theorem xE_le (bs : List Nat) (hB : Byt bs) : xE bs ≤ 4 := by
  rcases tk_cases bs hB with ⟨h, _⟩ | ⟨h, _⟩ <;> unfold xE <;> split <;> (try split) <;> (try split) <;> (try split) <;> omega

/-! ### Lists -/
def big : Nat := 2147483647
def flat (l : List Nat) : List Nat := l.flatMap num
theorem flat_nil : flat [] = [] := rfl
theorem flat_cons (x : Nat) (l : List Nat) : flat (x :: l) = num x ++ flat l := by simp [flat]
theorem flat_snoc (l : List Nat) (x : Nat) : flat (l ++ [x]) = flat l ++ num x := by simp [flat]
theorem flat_byt (l : List Nat) : Byt (flat l) := by
  intro x hx
  simp only [flat, List.mem_flatMap] at hx
  obtain ⟨a, _, ha⟩ := hx
  exact num_byt a x ha
theorem flat_len (l : List Nat) (h : ∀ x ∈ l, x ≤ 2147483647) : (flat l).length ≤ 5 * l.length := by
  induction l with
  | nil => simp [flat]
  | cons x l ih =>
    have := ih fun y hy => h y (by simp [hy])
    have h5 := num_five (h x (by simp))
    rw [flat_cons]
    simp
    omega
/-- m elements out of bs, which begin at place p: the elements, the place behind, the error. -/
def el : Nat → List Nat → Nat → List Nat × Nat × Nat
  | 0, _, p => ([], p, 0)
  | m + 1, bs, p =>
    if tE bs ≠ 0 then ([], 0, tE bs) else if 2147483647 < tN bs then ([], 0, 4)
    else if (el m (bs.drop (tW bs)) (p + tW bs)).2.2 = 0 then (tN bs :: (el m (bs.drop (tW bs)) (p + tW bs)).1, (el m (bs.drop (tW bs)) (p + tW bs)).2.1, 0)
    else ([], 0, (el m (bs.drop (tW bs)) (p + tW bs)).2.2)
/-- What was gathered, ahead of what comes. -/
def pre (acc : List Nat) (r : List Nat × Nat × Nat) : List Nat × Nat × Nat := if r.2.2 = 0 then (acc ++ r.1, r.2.1, 0) else ([], 0, r.2.2)
theorem pre_err {acc bs : List Nat} {m p : Nat} (h : tE bs ≠ 0) : pre acc (el (m + 1) bs p) = ([], 0, tE bs) := by
  rw [el, if_pos h]; simp [pre, h]
theorem pre_big {acc bs : List Nat} {m p : Nat} (h : tE bs = 0) (h2 : 2147483647 < tN bs) : pre acc (el (m + 1) bs p) = ([], 0, 4) := by
  rw [el, if_neg (by simp [h]), if_pos h2]; simp [pre]
theorem pre_next {acc bs : List Nat} {m p : Nat} (h : tE bs = 0) (h2 : ¬ 2147483647 < tN bs) : pre acc (el (m + 1) bs p) = pre (acc ++ [tN bs]) (el m (bs.drop (tW bs)) (p + tW bs)) := by
  rw [el, if_neg (by simp [h]), if_neg h2]
  generalize el m (bs.drop (tW bs)) (p + tW bs) = q
  by_cases h3 : q.2.2 = 0
  · simp [pre, h3]
  · simp [pre, h3]
theorem pre_nil (m p : Nat) (bs : List Nat) : pre [] (el m bs p) = el m bs p := by
  cases m with
  | zero => rfl
  | succ m =>
    rw [el]
    by_cases h1 : tE bs ≠ 0
    · rw [if_pos h1]; simp [pre]; exact fun h => absurd h h1
    rw [if_neg h1]
    by_cases h2 : 2147483647 < tN bs
    · rw [if_pos h2]; simp [pre]
    rw [if_neg h2]
    generalize el m (bs.drop (tW bs)) (p + tW bs) = q
    by_cases h3 : q.2.2 = 0
    · simp [pre, h3]
    · simp [pre, h3]
theorem pre_end (acc bs : List Nat) (p : Nat) : pre acc (el 0 bs p) = (acc, p, 0) := by simp [el, pre]

def ti (bs : List Nat) : List Nat × Nat × Nat := if tE bs ≠ 0 then ([], 0, tE bs) else if 1000 < tN bs then ([], 0, 11) else el (tN bs) (bs.drop (tW bs)) (tW bs)
def iV (bs : List Nat) : List Nat := (ti bs).1
def iW (bs : List Nat) : Nat := (ti bs).2.1
def iE (bs : List Nat) : Nat := (ti bs).2.2
def okl (l : List Int) : Bool := l.all fun x => decide (0 ≤ x ∧ x ≤ 2147483647)
def nats (l : List Int) : List Nat := l.map Int.toNat
def isE (l : List Int) : Nat := if 1000 < l.length then 11 else if okl l = true then 0 else 1
def isV (l : List Int) : List Nat := if isE l = 0 then num l.length ++ flat (nats l) else []

theorem el_back (l : List Nat) (h : ∀ x ∈ l, x ≤ 2147483647) (r : List Nat) (p : Nat) : el l.length (flat l ++ r) p = (l, p + (flat l).length, 0) := by
  induction l generalizing p with
  | nil => simp [el, flat]
  | cons x l ih =>
    have hx := h x (by simp)
    have i := ih (fun y hy => h y (by simp [hy])) (p + (num x).length)
    have ht := tk_num (n := x) (by omega) (flat l ++ r)
    rw [flat_cons, List.append_assoc, List.length_cons, el]
    generalize hb : num x ++ (flat l ++ r) = bs at ht
    have hN : tN bs = x := by unfold tN; rw [ht]
    have hW : tW bs = (num x).length := by unfold tW; rw [ht]
    have hE : tE bs = 0 := by unfold tE; rw [ht]
    have hd : bs.drop (num x).length = flat l ++ r := by rw [← hb, List.drop_left]
    rw [hN, hW, hE, hd, i]
    simp [show ¬ 2147483647 < x by omega]
    omega
theorem el_cut (l : List Nat) (h : ∀ x ∈ l, x ≤ 2147483647) (p c : Nat) (hc : c < (flat l).length) : (el l.length ((flat l).take c) p).2.2 = 2 := by
  induction l generalizing p c with
  | nil => simp [flat] at hc
  | cons x l ih =>
    have hx := h x (by simp)
    rw [flat_cons] at hc ⊢
    rw [List.length_cons, el]
    by_cases hs : c < (num x).length
    · rw [List.take_append_of_le_length (by omega)]
      have ht := tk_cut (n := x) (by omega) c hs
      have hE : tE ((num x).take c) = 2 := by unfold tE; rw [ht]
      rw [hE]; rfl
    · have e : (num x ++ flat l).take c = num x ++ (flat l).take (c - (num x).length) := by
        rw [List.take_append, List.take_of_length_le (by omega)]
      rw [e]
      have i := ih (fun y hy => h y (by simp [hy])) (p + (num x).length) (c - (num x).length) (by simp at hc; omega)
      have ht := tk_num (n := x) (by omega) ((flat l).take (c - (num x).length))
      generalize hb : num x ++ (flat l).take (c - (num x).length) = bs at ht
      have hN : tN bs = x := by unfold tN; rw [ht]
      have hW : tW bs = (num x).length := by unfold tW; rw [ht]
      have hE : tE bs = 0 := by unfold tE; rw [ht]
      have hd : bs.drop (num x).length = (flat l).take (c - (num x).length) := by rw [← hb, List.drop_left]
      rw [hN, hW, hE, hd, i]
      simp [show ¬ 2147483647 < x by omega]
theorem el_cases (m : Nat) : ∀ (bs : List Nat) (p : Nat), Byt bs →
    ((el m bs p).2.2 = 0 ∧ (el m bs p).1.length = m ∧ (∀ x ∈ (el m bs p).1, x ≤ 2147483647) ∧ (el m bs p).2.1 = p + (flat (el m bs p).1).length ∧ flat (el m bs p).1 = bs.take (flat (el m bs p).1).length ∧ (flat (el m bs p).1).length ≤ bs.length) ∨
    ((el m bs p).2.2 ≠ 0 ∧ (el m bs p).2.2 ≤ 4 ∧ (el m bs p).1 = [] ∧ (el m bs p).2.1 = 0) := by
  induction m with
  | zero => intro bs p _; exact .inl ⟨rfl, rfl, by simp [el], by simp [el, flat], by simp [el, flat], by simp [el, flat]⟩
  | succ m ih =>
    intro bs p hB
    rw [el]
    by_cases c1 : tE bs ≠ 0
    · rw [if_pos c1]
      refine .inr ⟨c1, ?_, rfl, rfl⟩
      rcases tk_cases bs hB with ⟨h, _⟩ | ⟨h, _⟩ <;> simp only <;> omega
    rw [if_neg c1]
    by_cases c2 : 2147483647 < tN bs
    · rw [if_pos c2]; exact .inr ⟨by simp, by simp, rfl, rfl⟩
    rw [if_neg c2]
    rcases ih (bs.drop (tW bs)) (p + tW bs) (byt_drop hB _) with ⟨h1, h2, h3, h4, h5, h6⟩ | ⟨h1, h2, h3, h4⟩
    · rw [if_pos h1]
      generalize el m (bs.drop (tW bs)) (p + tW bs) = q at *
      rcases tk_cases bs hB with ⟨_, a1, a2, a3, a4, a5⟩ | ⟨a, _⟩
      · have hl : (num (tN bs)).length = tW bs := by rw [a5]; simp; omega
        have h6' : (flat q.1).length + tW bs ≤ bs.length := by rw [List.length_drop] at h6; omega
        refine .inl ⟨rfl, by simp [h2], ?_, ?_, ?_, ?_⟩
        · intro x hx
          rcases List.mem_cons.1 hx with rfl | hx
          · omega
          · exact h3 x hx
        · simp only [flat_cons, List.length_append, hl]; omega
        · simp only [flat_cons, List.length_append, hl]
          rw [List.take_add, ← a5, ← h5]
        · simp only [flat_cons, List.length_append, hl]; omega
      · omega
    · rw [if_neg h1]; exact .inr ⟨h1, h2, rfl, rfl⟩

theorem nats_of {l : List Int} (h : okl l = true) : ∀ x ∈ nats l, x ≤ 2147483647 := by
  intro x hx
  simp only [nats, List.mem_map] at hx
  obtain ⟨a, ha, rfl⟩ := hx
  simp only [okl, List.all_eq_true, decide_eq_true_eq] at h
  have := h a ha
  omega
theorem nats_len (l : List Int) : (nats l).length = l.length := by simp [nats]
theorem nats_back {l : List Int} (h : okl l = true) : (nats l).map (fun n : Nat => (n : Int)) = l := by
  simp only [nats, List.map_map]
  rw [List.map_congr_left (g := id), List.map_id]
  intro x hx
  simp only [okl, List.all_eq_true, decide_eq_true_eq] at h
  have := h x hx
  simp
  omega
theorem okl_nats {l : List Nat} (h : ∀ x ∈ l, x ≤ 2147483647) : okl (l.map fun n : Nat => (n : Int)) = true := by
  simp only [okl, List.all_eq_true, List.mem_map, decide_eq_true_eq]
  rintro x ⟨a, ha, rfl⟩
  have := h a ha
  omega
theorem nats_map (l : List Nat) : nats (l.map fun n : Nat => (n : Int)) = l := by simp [nats, Function.comp_def]
theorem isE_zero {l : List Int} : isE l = 0 ↔ l.length ≤ 1000 ∧ okl l = true := by
  unfold isE
  constructor
  · intro h
    by_cases c : 1000 < l.length
    · rw [if_pos c] at h; cases h
    · rw [if_neg c] at h
      by_cases d : okl l = true
      · exact ⟨by omega, d⟩
      · rw [if_neg d] at h; cases h
  · rintro ⟨h1, h2⟩
    rw [if_neg (by omega), if_pos h2]

theorem i_back {l : List Int} (h : isE l = 0) (r : List Nat) : iE (isV l ++ r) = 0 ∧ iV (isV l ++ r) = nats l ∧ iW (isV l ++ r) = (isV l).length := by
  obtain ⟨h1, h2⟩ := isE_zero.1 h
  have hb := el_back (nats l) (nats_of h2) r (num l.length).length
  have hv : isV l = num l.length ++ flat (nats l) := by unfold isV; rw [if_pos h]
  have ht := tk_num (n := l.length) (by omega) (flat (nats l) ++ r)
  have e : ti (isV l ++ r) = (nats l, (isV l).length, 0) := by
    rw [hv, List.append_assoc]
    generalize hx : num l.length ++ (flat (nats l) ++ r) = bs at ht
    have hN : tN bs = l.length := by unfold tN; rw [ht]
    have hW : tW bs = (num l.length).length := by unfold tW; rw [ht]
    have hE : tE bs = 0 := by unfold tE; rw [ht]
    have hd : bs.drop (num l.length).length = flat (nats l) ++ r := by rw [← hx, List.drop_left]
    unfold ti
    rw [hN, hW, hE, hd, if_neg (by simp), if_neg (by omega)]
    rw [nats_len] at hb
    rw [hb]
    simp
  unfold iE iV iW
  rw [e]
  exact ⟨rfl, rfl, rfl⟩
theorem i_cut {l : List Int} (h : isE l = 0) (c : Nat) (hc : c < (isV l).length) : iE ((isV l).take c) = 2 := by
  obtain ⟨h1, h2⟩ := isE_zero.1 h
  have hv : isV l = num l.length ++ flat (nats l) := by unfold isV; rw [if_pos h]
  rw [hv] at hc ⊢
  unfold iE ti
  by_cases hs : c < (num l.length).length
  · rw [List.take_append_of_le_length (by omega)]
    have ht := tk_cut (n := l.length) (by omega) c hs
    have hE : tE ((num l.length).take c) = 2 := by unfold tE; rw [ht]
    rw [hE]; rfl
  · have e : (num l.length ++ flat (nats l)).take c = num l.length ++ (flat (nats l)).take (c - (num l.length).length) := by
      rw [List.take_append, List.take_of_length_le (by omega)]
    rw [e]
    have ht := tk_num (n := l.length) (by omega) ((flat (nats l)).take (c - (num l.length).length))
    have i := el_cut (nats l) (nats_of h2) (num l.length).length (c - (num l.length).length) (by simp at hc; omega)
    generalize hx : num l.length ++ (flat (nats l)).take (c - (num l.length).length) = bs at ht
    have hN : tN bs = l.length := by unfold tN; rw [ht]
    have hW : tW bs = (num l.length).length := by unfold tW; rw [ht]
    have hE : tE bs = 0 := by unfold tE; rw [ht]
    have hd : bs.drop (num l.length).length = (flat (nats l)).take (c - (num l.length).length) := by rw [← hx, List.drop_left]
    rw [hN, hW, hE, hd, if_neg (by simp), if_neg (by omega)]
    rw [nats_len] at i
    exact i
theorem i_cases (bs : List Nat) (hB : Byt bs) :
    (iE bs = 0 ∧ (iV bs).length ≤ 1000 ∧ (∀ x ∈ iV bs, x ≤ 2147483647) ∧ iW bs ≤ bs.length ∧ iW bs ≤ 5010 ∧ isE ((iV bs).map fun n : Nat => (n : Int)) = 0 ∧ isV ((iV bs).map fun n : Nat => (n : Int)) = bs.take (iW bs)) ∨ (iE bs ≠ 0 ∧ iE bs ≤ 11 ∧ iV bs = [] ∧ iW bs = 0) := by
  unfold iE iV iW ti
  by_cases c1 : tE bs ≠ 0
  · rw [if_pos c1]
    refine .inr ⟨c1, ?_, rfl, rfl⟩
    rcases tk_cases bs hB with ⟨h, _⟩ | ⟨h, _⟩ <;> simp only <;> omega
  rw [if_neg c1]
  by_cases c2 : 1000 < tN bs
  · rw [if_pos c2]; exact .inr ⟨by simp, by simp, rfl, rfl⟩
  rw [if_neg c2]
  rcases tk_cases bs hB with ⟨_, a1, a2, a3, a4, a5⟩ | ⟨a, _⟩
  · rcases el_cases (tN bs) (bs.drop (tW bs)) (tW bs) (byt_drop hB _) with ⟨h1, h2, h3, h4, h5, h6⟩ | ⟨h1, h2, h3, h4⟩
    · generalize el (tN bs) (bs.drop (tW bs)) (tW bs) = q at *
      rw [List.length_drop] at h6
      have f5 := flat_len q.1 h3
      have ok : isE (q.1.map fun n : Nat => (n : Int)) = 0 := isE_zero.2 ⟨by simp; omega, okl_nats h3⟩
      refine .inl ⟨h1, by omega, h3, by omega, by omega, ok, ?_⟩
      unfold isV
      rw [if_pos ok, nats_map, List.length_map, h2, a5, h4, h5, List.take_add]
      congr 2
      rw [← h5]
    · exact .inr ⟨h1, by omega, h3, h4⟩
  · omega
end Go.Proofs.YtcedjjolikmbbaaDoor
