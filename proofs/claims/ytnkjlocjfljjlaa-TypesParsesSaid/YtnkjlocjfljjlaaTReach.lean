/- What reaches what, in the mind: the walk by a stack, and step by step. No program. -/
import Derived.Test.YtnkjlocjfljjlaaTMath
namespace Go.Proofs.Ytnkjlocjfljjlaa

theorem nodup_le : ∀ (n : Nat) (l : List Nat), l.Nodup → (∀ x ∈ l, x < n) → l.length ≤ n
  | 0, l, _, h => by
    cases l with
    | nil => simp
    | cons a r => exact absurd (h a (by simp)) (by omega)
  | n + 1, l, hd, h => by
    have h1 := nodup_le n (l.erase n) (hd.erase n) (fun x hx => by
      have := (hd.mem_erase_iff).1 hx
      have := h x this.2
      omega)
    rw [List.length_erase] at h1
    split at h1 <;> omega
theorem edge_lt {ts : List Ty} (hp : Pok ts) {a b : Nat} (h : edge ts a b) : b < ts.length := by
  obtain ⟨t, f, ht, hf, hk, hb⟩ := h
  obtain ⟨n, e, hn⟩ := hp t (List.mem_of_getElem? ht) f hf hk
  omega
abbrev Rc (ts : List Ty) (i x : Nat) : Prop := Relation.TransGen (edge ts) i x
theorem reach_is {ts : List Ty} {i : Nat} {s : List Nat} (h1 : ∀ x, edge ts i x → x ∈ s) (h2 : ∀ y ∈ s, ∀ x, edge ts y x → x ∈ s) (h3 : ∀ x ∈ s, Rc ts i x) : reach ts i = decide (i ∈ s) := by
  have all : ∀ x, Rc ts i x → x ∈ s := by
    intro x hx
    induction hx with
    | single h => exact h1 _ h
    | tail _ h ih => exact h2 _ ih _ h
  unfold reach
  by_cases hi : i ∈ s
  · simp only [hi, decide_true]
    exact @decide_eq_true _ (_) (h3 i hi)
  · simp only [hi, decide_false]
    exact @decide_eq_false _ (_) (fun h => hi (all i h))

/-! ### by a stack -/
structure Dfs (ts : List Ty) (i : Nat) (seen wk : List Nat) : Prop where
  nd : seen.Nodup
  lt : ∀ x ∈ seen, x < ts.length
  rch : ∀ x ∈ seen, Rc ts i x
  hwk : ∀ x ∈ wk, x = i ∨ x ∈ seen
  cl : ∀ y, (y = i ∨ y ∈ seen) → y ∈ wk ∨ ∀ x, edge ts y x → x ∈ seen
  len : wk.length ≤ seen.length + 1
structure Dfi (ts : List Ty) (i y : Nat) (fs : List Fd) (m : Nat) (seen wk : List Nat) : Prop where
  nd : seen.Nodup
  lt : ∀ x ∈ seen, x < ts.length
  rch : ∀ x ∈ seen, Rc ts i x
  hwk : ∀ x ∈ wk, x = i ∨ x ∈ seen
  my : y = i ∨ y ∈ seen
  cl : ∀ z, (z = i ∨ z ∈ seen) → z ∈ wk ∨ z = y ∨ ∀ x, edge ts z x → x ∈ seen
  pr : ∀ (t : Nat) (f : Fd), t < m → fs[t]? = some f → f.kind = 2 → ∃ x ∈ seen, f.ty = (x : Int)
  len : wk.length ≤ seen.length
theorem Dfs.start (ts : List Ty) (i : Nat) : Dfs ts i [] [i] := ⟨List.nodup_nil, by simp, by simp, by simp, fun y hy => by simp at hy; simp [hy], by simp⟩
theorem Dfs.pop {ts : List Ty} {i y : Nat} {seen wk : List Nat} (fs : List Fd) (h : Dfs ts i seen (wk ++ [y])) : Dfi ts i y fs 0 seen wk := by
  refine ⟨h.nd, h.lt, h.rch, fun x hx => h.hwk x (by simp [hx]), h.hwk y (by simp), fun z hz => ?_, fun t f ht => by omega, ?_⟩
  · rcases h.cl z hz with h1 | h1
    · simp at h1
      rcases h1 with h1 | h1
      · exact .inl h1
      · exact .inr (.inl h1)
    · exact .inr (.inr h1)
  · have := h.len
    simp at this
    omega
theorem Dfi.skip {ts : List Ty} {i y m : Nat} {fs : List Fd} {seen wk : List Nat} {f : Fd} (h : Dfi ts i y fs m seen wk) (hf : fs[m]? = some f) (hs : f.kind = 2 → ∃ x ∈ seen, f.ty = (x : Int)) : Dfi ts i y fs (m + 1) seen wk := by
  refine ⟨h.nd, h.lt, h.rch, h.hwk, h.my, h.cl, fun t g ht hg hk => ?_, h.len⟩
  rcases Nat.lt_or_ge t m with hlt | hge
  · exact h.pr t g hlt hg hk
  · obtain rfl : t = m := by omega
    rw [hf] at hg
    injection hg with hg
    subst hg
    exact hs hk
theorem Dfi.add {ts : List Ty} {i y m : Nat} {seen wk : List Nat} {t : Ty} {f : Fd} (h : Dfi ts i y t.fields m seen wk) (ht : ts[y]? = some t) (hf : t.fields[m]? = some f) (hk : f.kind = 2) {x : Nat} (hx : f.ty = (x : Int)) (hxl : x < ts.length) (hn : x ∉ seen) : Dfi ts i y t.fields (m + 1) (seen ++ [x]) (wk ++ [x]) := by
  have he : edge ts y x := ⟨t, f, ht, List.mem_of_getElem? hf, hk, hx⟩
  refine ⟨?_, ?_, ?_, ?_, ?_, ?_, ?_, ?_⟩
  · rw [List.nodup_append]
    refine ⟨h.nd, by simp, fun a ha b hb => ?_⟩
    simp at hb
    subst hb
    intro e
    subst e
    exact hn ha
  · intro z hz
    simp at hz
    rcases hz with hz | rfl
    · exact h.lt z hz
    · exact hxl
  · intro z hz
    simp at hz
    rcases hz with hz | rfl
    · exact h.rch z hz
    · rcases h.my with rfl | hy
      · exact .single he
      · exact .tail (h.rch y hy) he
  · intro z hz
    simp at hz ⊢
    rcases hz with hz | rfl
    · rcases h.hwk z hz with h1 | h1
      · exact .inl h1
      · exact .inr (.inl h1)
    · exact .inr (.inr rfl)
  · rcases h.my with h1 | h1
    · exact .inl h1
    · exact .inr (by simp [h1])
  · intro z hz
    simp at hz
    by_cases hzx : z = x
    · subst hzx
      exact .inl (by simp)
    · have hz' : z = i ∨ z ∈ seen := by
        rcases hz with h1 | h1 | h1
        · exact .inl h1
        · exact .inr h1
        · exact absurd h1 hzx
      rcases h.cl z hz' with h1 | h1 | h1
      · exact .inl (by simp [h1])
      · exact .inr (.inl h1)
      · exact .inr (.inr fun a ha => by simp [h1 a ha])
  · intro t' g ht' hg hk'
    rcases Nat.lt_or_ge t' m with hlt | hge
    · obtain ⟨a, ha, e⟩ := h.pr t' g hlt hg hk'
      exact ⟨a, by simp [ha], e⟩
    · obtain rfl : t' = m := by omega
      rw [hf] at hg
      injection hg with hg
      subst hg
      exact ⟨x, by simp, hx⟩
  · have := h.len
    simp
    exact this
theorem Dfi.done {ts : List Ty} {i y m : Nat} {seen wk : List Nat} {t : Ty} (h : Dfi ts i y t.fields m seen wk) (ht : ts[y]? = some t) (hm : t.fields.length ≤ m) : Dfs ts i seen wk := by
  refine ⟨h.nd, h.lt, h.rch, h.hwk, fun z hz => ?_, Nat.le_succ_of_le h.len⟩
  rcases h.cl z hz with h1 | rfl | h1
  · exact .inl h1
  · refine .inr fun x hx => ?_
    obtain ⟨t', f, ht', hf, hk, hb⟩ := hx
    rw [ht] at ht'
    injection ht' with ht'
    subst ht'
    obtain ⟨k, hk'⟩ := List.mem_iff_getElem?.1 hf
    have hkl := (List.getElem?_eq_some_iff.1 hk').1
    obtain ⟨a, ha, e⟩ := h.pr k f (by omega) hk' hk
    have : a = x := by omega
    exact this ▸ ha
  · exact .inr h1
theorem Dfs.fin {ts : List Ty} {i : Nat} {seen : List Nat} (h : Dfs ts i seen []) : reach ts i = decide (i ∈ seen) := by
  refine reach_is (fun x hx => ?_) (fun y hy x hx => ?_) h.rch
  · rcases h.cl i (.inl rfl) with h1 | h1
    · cases h1
    · exact h1 x hx
  · rcases h.cl y (.inr hy) with h1 | h1
    · cases h1
    · exact h1 x hx

/-! ### step by step -/
structure Stp (ts : List Ty) (s out : List Nat) : Prop where
  ext : ∃ N : List Nat, out = s ++ N ∧ N.Nodup ∧ ∀ x ∈ N, x ∉ s ∧ x < ts.length ∧ ∃ y ∈ s, edge ts y x
  all : ∀ y ∈ s, ∀ x, edge ts y x → x ∈ out
def Clo (ts : List Ty) (s : List Nat) : Prop := ∀ y ∈ s, ∀ x, edge ts y x → x ∈ s
def cov (n : Nat) (s : List Nat) : Nat := ((List.range n).filter fun x => decide (x ∈ s)).length
theorem cov_mono {n : Nat} {s out : List Nat} (h : ∀ x ∈ s, x ∈ out) : cov n s ≤ cov n out := by
  unfold cov
  rw [← List.countP_eq_length_filter, ← List.countP_eq_length_filter]
  exact List.countP_mono_left fun x _ hx => by simp at hx ⊢; exact h x hx
theorem cov_lt {s out : List Nat} {x : Nat} (h : ∀ x ∈ s, x ∈ out) (hx : x ∈ out) (hn : x ∉ s) : ∀ {n : Nat}, x < n → cov n s < cov n out
  | 0, hl => by omega
  | n + 1, hl => by
    unfold cov
    rw [List.range_succ, List.filter_append, List.filter_append, List.length_append, List.length_append]
    by_cases e : x = n
    · subst e
      have := cov_mono (n := x) h
      unfold cov at this
      simp [hx, hn]
      omega
    · have := cov_lt h hx hn (n := n) (by omega)
      unfold cov at this
      by_cases hs : n ∈ s
      · have := h n hs
        simp [hs, this]
        omega
      · simp [hs]
        omega
theorem cov_full {n : Nat} {s : List Nat} (h : n ≤ cov n s) : ∀ x, x < n → x ∈ s := by
  intro x hx
  apply Decidable.byContradiction
  intro hn
  have h1 := cov_lt (s := s) (out := s ++ [x]) (fun y hy => by simp [hy]) (by simp) hn hx
  have h2 : cov n (s ++ [x]) ≤ n := by
    unfold cov
    have := List.length_filter_le (fun y => decide (y ∈ s ++ [x])) (List.range n)
    simpa using this
  omega
theorem Stp.step {ts : List Ty} {s out : List Nat} {k : Nat} (hp : Pok ts) (h : Stp ts s out) (hi : Clo ts s ∨ k ≤ cov ts.length s) : Clo ts out ∨ k + 1 ≤ cov ts.length out := by
  obtain ⟨N, e, hd, hN⟩ := h.ext
  by_cases hc : Clo ts s
  · left
    have : N = [] := by
      cases N with
      | nil => rfl
      | cons a r =>
        obtain ⟨h1, _, y, hy, he⟩ := hN a (by simp)
        exact absurd (hc y hy a he) h1
    subst this
    rw [List.append_nil] at e
    rw [e]
    exact hc
  · right
    have hk := hi.resolve_left hc
    have sub : ∀ x ∈ s, x ∈ out := fun x hx => by rw [e]; simp [hx]
    have : ∃ y ∈ s, ∃ x, edge ts y x ∧ x ∉ s := by
      apply Classical.byContradiction
      intro hno
      apply hc
      intro y hy x hx
      apply Classical.byContradiction
      intro hxs
      exact hno ⟨y, hy, x, hx, hxs⟩
    obtain ⟨y, hy, x, hx, hxs⟩ := this
    have := cov_lt sub (h.all y hy x hx) hxs (edge_lt hp hx)
    omega
/-- What stands after k steps from the targets of i. -/
structure Sq (ts : List Ty) (i : Nat) (s0 : List Nat) (k : Nat) (s : List Nat) : Prop where
  ext : ∃ N : List Nat, s = s0 ++ N ∧ N.Nodup ∧ ∀ x ∈ N, x ∉ s0 ∧ x < ts.length
  rch : ∀ x ∈ s, Rc ts i x
  cov : Clo ts s ∨ k ≤ cov ts.length s
theorem Sq.start {ts : List Ty} {i : Nat} {s0 : List Nat} (h : ∀ x ∈ s0, edge ts i x) : Sq ts i s0 0 s0 := ⟨⟨[], by simp, List.nodup_nil, by simp⟩, fun x hx => .single (h x hx), .inr (Nat.zero_le _)⟩
theorem Sq.step {ts : List Ty} {i k : Nat} {s0 s out : List Nat} (hp : Pok ts) (h : Sq ts i s0 k s) (hs : Stp ts s out) : Sq ts i s0 (k + 1) out := by
  obtain ⟨N, rfl, hd, hN⟩ := h.ext
  obtain ⟨M, rfl, hd2, hM⟩ := hs.ext
  refine ⟨⟨N ++ M, by simp, ?_, ?_⟩, ?_, hs.step hp h.cov⟩
  · rw [List.nodup_append]
    refine ⟨hd, hd2, fun a ha b hb e => ?_⟩
    subst e
    exact (hM a hb).1 (by simp [ha])
  · intro x hx
    rcases List.mem_append.1 hx with h1 | h1
    · exact hN x h1
    · exact ⟨fun hh => (hM x h1).1 (by simp [hh]), (hM x h1).2.1⟩
  · intro x hx
    rcases List.mem_append.1 hx with h1 | h1
    · exact h.rch x h1
    · obtain ⟨_, _, y, hy, he⟩ := hM x h1
      exact .tail (h.rch y hy) he
theorem Sq.fin {ts : List Ty} {i : Nat} {s0 s : List Nat} (hp : Pok ts) (h : Sq ts i s0 ts.length s) (h0 : ∀ x, edge ts i x → x ∈ s0) : reach ts i = decide (i ∈ s) := by
  obtain ⟨N, e, _, _⟩ := h.ext
  refine reach_is (fun x hx => by rw [e]; simp [h0 x hx]) ?_ h.rch
  rcases h.cov with hc | hc
  · exact hc
  · intro y _ x hx
    exact cov_full hc x (edge_lt hp hx)
theorem Sq.len {ts : List Ty} {i k : Nat} {s0 s : List Nat} (h : Sq ts i s0 k s) : s.length ≤ s0.length + ts.length := by
  obtain ⟨N, e, hd, hN⟩ := h.ext
  have := nodup_le ts.length N hd fun x hx => (hN x hx).2
  rw [e, List.length_append]
  omega
end Go.Proofs.Ytnkjlocjfljjlaa
