/- What Text writes, Read reads, and the other way round: in the mind. No condition. -/
import Derived.Test.YtcedjjolikmbbaaDoorIMath
namespace Go.Proofs.YtcedjjolikmbbaaDoor
set_option maxRecDepth 100000
set_option maxHeartbeats 4000000

/-- Words joined by blanks. -/
def jn : List (List UInt8) → List UInt8
  | [] => []
  | [w] => w
  | w :: v :: t => w ++ 32 :: jn (v :: t)
theorem jn_app (s x : List UInt8) (t : List (List UInt8)) : jn ((s ++ x) :: t) = s ++ jn (x :: t) := by
  cases t with
  | nil => rfl
  | cons v t => simp [jn]
theorem jn_cons (c : UInt8) (x : List UInt8) (t : List (List UInt8)) : jn ((c :: x) :: t) = c :: jn (x :: t) := jn_app [c] x t
theorem sp_ne (s : List UInt8) : sp s ≠ [] := by
  cases s with
  | nil => simp [sp]
  | cons c r => unfold sp; split; simp; split <;> simp
theorem jn_sp : ∀ s : List UInt8, jn (sp s) = s
  | [] => rfl
  | c :: r => by
    have ih := jn_sp r
    unfold sp
    split
    · rename_i h
      subst h
      cases e : sp r with
      | nil => exact absurd e (sp_ne r)
      | cons h t => rw [e] at ih; simp [jn, ih]
    · cases e : sp r with
      | nil => exact absurd e (sp_ne r)
      | cons h t => rw [e] at ih; simp only; rw [jn_cons, ih]
theorem sp_one : ∀ w : List UInt8, 32 ∉ w → sp w = [w]
  | [], _ => rfl
  | c :: r, h => by
    have h1 : c ≠ 32 := fun e => h (by simp [e])
    have h2 := sp_one r (fun e => h (by simp [e]))
    unfold sp
    rw [if_neg h1, h2]
theorem sp_app : ∀ (w r : List UInt8), 32 ∉ w → sp (w ++ 32 :: r) = w :: sp r
  | [], r, _ => by show sp (32 :: r) = _; rw [sp, if_pos rfl]
  | c :: v, r, h => by
    have h1 : c ≠ 32 := fun e => h (by simp [e])
    have h2 := sp_app v r (fun e => h (by simp [e]))
    show sp (c :: (v ++ 32 :: r)) = _
    rw [sp, if_neg h1, h2]
theorem sp_jn : ∀ l : List (List UInt8), l ≠ [] → (∀ w ∈ l, 32 ∉ w) → sp (jn l) = l
  | [], h, _ => absurd rfl h
  | [w], _, h => sp_one w (h w (by simp))
  | w :: v :: t, _, h => by
    show sp (w ++ 32 :: jn (v :: t)) = _
    rw [sp_app _ _ (h w (by simp)), sp_jn (v :: t) (by simp) (fun x hx => h x (by simp at hx ⊢; exact Or.inr hx))]
/-- The words behind the first one. -/
def tws (i : In) : List (Nat × Nat) → List (List UInt8)
  | [] => []
  | o :: r => if hw o.1 o.2 = true then wd o.2 (opAt i o.1) :: tws i r else tws i r
theorem txL_jn (i : In) : ∀ (l : List (Nat × Nat)) (s : List UInt8), txL i l s = jn (s :: tws i l)
  | [], s => rfl
  | o :: r, s => by
    unfold txL tws
    split
    · rw [txL_jn i r, jn_app, jn_cons]
      rfl
    · exact txL_jn i r s
theorem digit_plain (u : Nat) (k : Nat) : Lib.dg u k = UInt8.ofNat (48 + u / 10 ^ k % 10) := rfl
theorem dec_digits (u : Nat) : ∀ c ∈ Lib.decDigits u, 48 ≤ c.toNat ∧ c.toNat ≤ 57 := by
  rw [Lib.decDigits_eq]
  intro c hc
  obtain ⟨k, _, rfl⟩ := List.mem_map.1 hc
  rw [digit_plain]
  generalize u / 10 ^ (Lib.nDigits u - 1 - k) = q
  have := Nat.mod_lt q (show 10 > 0 by omega)
  simp
  omega
theorem dec_ne (u : Nat) : Lib.decDigits u ≠ [] := by
  intro e
  have := Lib.decDigits_length u
  rw [e] at this
  unfold Lib.nDigits at this
  split at this <;> simp at this <;> omega
theorem parse_dec (M : Nat) (hM : M < 4294967296) : ∀ (u : Nat), u ≤ M → ∀ (r : List UInt8), Lib.parseUintM M 0 (Lib.decDigits u ++ r) = Lib.parseUintM M u r := by
  intro u
  induction u using Nat.strongRecOn with
  | _ u ih =>
    intro hu r
    by_cases h : u < 10
    · rw [Lib.decDigits_one h]
      have e : (UInt8.ofNat (48 + u)).toNat = 48 + u := by simp; omega
      show Lib.parseUintM M 0 (UInt8.ofNat (48 + u) :: r) = _
      rw [Lib.parseUintM, e, if_pos (by omega), if_neg (by omega), if_neg (by omega)]
      congr 1
      omega
    · have e1 : Lib.decDigits u = Lib.decDigits (u / 10) ++ [UInt8.ofNat (48 + u % 10)] := by rw [Lib.decDigits, dif_neg h]
      rw [e1, List.append_assoc, ih (u / 10) (by omega) (by omega)]
      have e : (UInt8.ofNat (48 + u % 10)).toNat = 48 + u % 10 := by simp; omega
      show Lib.parseUintM M (u / 10) (UInt8.ofNat (48 + u % 10) :: r) = _
      rw [Lib.parseUintM, e, if_pos (by omega), if_neg (by omega), if_neg (by omega)]
      congr 1
      omega
theorem rdDec_dec (u : Nat) (hu : u < 4294967296) : rdDec (Lib.decDigits u) = some u := by
  have h := parse_dec 4294967295 (by omega) u (by omega) []
  rw [List.append_nil] at h
  have h2 : Lib.parseUintB 32 (Lib.decDigits u) = .ok u := by
    unfold Lib.parseUintB
    rw [if_neg (dec_ne u)]
    exact h
  unfold rdDec
  rw [h2]
  simp
theorem rdDec_inv {d : List UInt8} {u : Nat} (h : rdDec d = some u) : Lib.decDigits u = d := by
  unfold rdDec at h
  split at h
  · split at h
    · rename_i h2
      simp at h
      rw [← h]; exact h2
    · cases h
  · cases h
theorem rdHelp_wd : ∀ v : Fin 23, 1 ≤ v.val → rdHelp (helpT.getD v.val []) 1 22 = some v.val := by decide +kernel
theorem rdHelp_inv {w : List UInt8} : ∀ (n c v : Nat), rdHelp w c n = some v → c ≤ v ∧ v < c + n ∧ helpT.getD v [] = w
  | 0, c, v, h => by cases h
  | n + 1, c, v, h => by
    unfold rdHelp at h
    split at h
    · rename_i e
      simp at h
      subst h
      exact ⟨Nat.le_refl _, by omega, e⟩
    · have := rdHelp_inv n (c + 1) v h
      exact ⟨by omega, by omega, this.2.2⟩
theorem pre_app (s d : List UInt8) : Lib.hasPrefix (s ++ d) s = true := by
  unfold Lib.hasPrefix
  simp
theorem rw_wd (f v : Nat) (h9 : f ≠ 9 ∨ (1 ≤ v ∧ v ≤ 22)) (hr : inR f v = true) (hv : v < 4294967296) : rw f (wd f v) = some v := by
  unfold rw wd
  by_cases e : f = 9
  · rw [if_pos e, if_pos e]
    rcases h9 with h | h
    · exact absurd e h
    · exact rdHelp_wd ⟨v, by omega⟩ h.1
  · rw [if_neg e, if_neg e, if_pos (pre_app _ _), List.drop_left, rdDec_dec v hv]
    simp [hr]
theorem rw_inv {f v : Nat} {w : List UInt8} (h : rw f w = some v) : wd f v = w ∧ inR f v = true := by
  unfold rw at h
  unfold wd
  by_cases e : f = 9
  · rw [if_pos e] at h
    rw [if_pos e]
    obtain ⟨h1, h2, h3⟩ := rdHelp_inv _ _ _ h
    refine ⟨h3, ?_⟩
    subst e
    simp [inR, lowN, lowT, highN, highT]
    omega
  · rw [if_neg e] at h
    rw [if_neg e]
    split at h
    · rename_i hp
      cases hd : rdDec (w.drop (signN f).length) with
      | none => rw [hd] at h; simp at h
      | some u =>
        rw [hd] at h
        simp at h
        obtain ⟨h1, rfl⟩ := h
        refine ⟨?_, h1⟩
        rw [rdDec_inv hd]
        have : signN f <+: w := by simpa [Lib.hasPrefix] using hp
        obtain ⟨t, rfl⟩ := this
        simp
    · cases h
theorem wd_plain (f v : Nat) : 32 ∉ wd f v := by
  unfold wd
  split
  · have : ∀ l ∈ helpT, (32 : UInt8) ∉ l := by decide +kernel
    rw [List.getD_eq_getElem?_getD]
    rcases e : helpT[v]? with _ | l
    · simp
    · exact this l (List.mem_of_getElem? e)
  · intro h
    rcases List.mem_append.1 h with h | h
    · have : ∀ l ∈ signT, (32 : UInt8) ∉ l := by decide +kernel
      unfold signN at h
      rw [List.getD_eq_getElem?_getD] at h
      rcases e : signT[f]? with _ | l
      · rw [e] at h; simp at h
      · rw [e] at h; exact this l (List.mem_of_getElem? e) h
    · have := dec_digits v 32 h
      simp at this
end Go.Proofs.YtcedjjolikmbbaaDoor
