/- Parsing types, in the mind: what is read of bytes; there and back. No condition. -/
import Derived.Test.YtnkjlocjfljjlaaTTakeType
namespace Go.Proofs.Ytnkjlocjfljjlaa
def psE : Nat → List Nat → Nat
  | 0, _ => 0
  | n + 1, bs => if ttE bs ≠ 0 then ttE bs else psE n (bs.drop (ttW bs))
def psV : Nat → List Nat → List Ty
  | 0, _ => []
  | n + 1, bs => ttV bs :: psV n (bs.drop (ttW bs))
def psW : Nat → List Nat → Nat
  | 0, _ => 0
  | n + 1, bs => ttW bs + psW n (bs.drop (ttW bs))
def paR (bs : List Nat) : List Nat := bs.drop (tW bs)
noncomputable def paE (bs : List Nat) : Nat :=
  if tE bs ≠ 0 then tE bs else if 32 < tN bs then 11 else if psE (tN bs) (paR bs) ≠ 0 then psE (tN bs) (paR bs) else ckE (psV (tN bs) (paR bs))
noncomputable def paV (bs : List Nat) : List Ty := if paE bs = 0 then psV (tN bs) (paR bs) else []
noncomputable def paW (bs : List Nat) : Nat := if paE bs = 0 then tW bs + psW (tN bs) (paR bs) else 0
theorem pa_no {bs : List Nat} {q : Nat} (h : paE bs = q) (hq : q ≠ 0) : paV bs = [] ∧ paW bs = 0 := by
  unfold paV paW
  rw [h, if_neg hq, if_neg hq]
  exact ⟨rfl, rfl⟩
theorem pa_head {bs : List Nat} (h : tE bs ≠ 0) : paE bs = tE bs := by unfold paE; rw [if_pos h]
theorem pa_many {bs : List Nat} (h : tE bs = 0) (h2 : 32 < tN bs) : paE bs = 11 := by unfold paE; rw [if_neg (by rw [h]; decide), if_pos h2]
theorem pa_bad {bs : List Nat} (h : tE bs = 0) (h2 : ¬ 32 < tN bs) (h3 : psE (tN bs) (paR bs) ≠ 0) : paE bs = psE (tN bs) (paR bs) := by unfold paE; rw [if_neg (by rw [h]; decide), if_neg h2, if_pos h3]
theorem pa_ck {bs : List Nat} (h : tE bs = 0) (h2 : ¬ 32 < tN bs) (h3 : psE (tN bs) (paR bs) = 0) : paE bs = ckE (psV (tN bs) (paR bs)) := by unfold paE; rw [if_neg (by rw [h]; decide), if_neg h2, if_neg (by rw [h3]; decide)]
theorem pa_ok {bs : List Nat} (h : paE bs = 0) : paV bs = psV (tN bs) (paR bs) ∧ paW bs = tW bs + psW (tN bs) (paR bs) := by
  unfold paV paW
  rw [if_pos h, if_pos h]
  exact ⟨rfl, rfl⟩
theorem pa_parts {bs : List Nat} (h : paE bs = 0) : tE bs = 0 ∧ tN bs ≤ 32 ∧ psE (tN bs) (paR bs) = 0 ∧ ckE (psV (tN bs) (paR bs)) = 0 := by
  unfold paE at h
  split at h
  · rename_i h1; exact absurd h h1
  · rename_i h1
    split at h
    · cases h
    · rename_i h2
      split at h
      · rename_i h3; exact absurd h h3
      · rename_i h3
        exact ⟨Decidable.not_not.1 h1, by omega, Decidable.not_not.1 h3, h⟩
theorem ttE_nil : ttE [] = 2 := by unfold ttE; rfl
theorem ttE_zero {bs : List Nat} (h : ttE bs = 0) : xE bs = 0 ∧ iE (ttR bs) = 0 ∧ (ttL bs).length % 5 = 1 ∧ (ttL bs).getD 0 0 ≤ 3 := by
  unfold ttE at h
  split at h
  · rename_i h1; exact absurd h h1
  · rename_i h1
    split at h
    · rename_i h2; exact absurd h h2
    · rename_i h2
      split at h
      · cases h
      · rename_i h3
        exact ⟨Decidable.not_not.1 h1, Decidable.not_not.1 h2, by omega, by omega⟩
theorem tt_le {bs : List Nat} (hB : Byt bs) (h : ttE bs = 0) : ttW bs ≤ bs.length ∧ ttW bs ≤ 5036 := by
  obtain ⟨h1, h2, _, _⟩ := ttE_zero h
  have hx := (x_cases bs hB).resolve_right fun e => e.1 h1
  have hi := (i_cases (ttR bs) (byt_drop hB _)).resolve_right fun e => e.1 h2
  have hl : (ttR bs).length = bs.length - xW bs := by unfold ttR; rw [List.length_drop]
  unfold ttW
  omega
theorem xV_len {bs : List Nat} (hB : Byt bs) : (xV bs).length ≤ 16 := by
  rcases x_cases bs hB with h | h
  · exact (nm_len h.2.1).2
  · rw [h.2.1]; simp
/-! ### there and back -/
theorem fos_back : ∀ (fs : List Fd) , fos (fs.flatMap nf) = fs
  | [] => rfl
  | f :: r => by
    obtain ⟨a, b, c, d, e⟩ := f
    simp only [List.flatMap_cons, nf, List.cons_append, List.nil_append, fos]
    rw [fos_back r]
theorem nf_fos : ∀ (m : Nat) (l : List Int), l.length = 5 * m → (fos l).flatMap nf = l
  | 0, l, h => by
    have : l = [] := List.eq_nil_of_length_eq_zero (by omega)
    subst this
    rfl
  | m + 1, l, h => by
    obtain ⟨a, b, c, d, e, r, rfl, hr⟩ := five_of (n := 5 * m) (by omega)
    simp only [fos, List.flatMap_cons, nf, List.cons_append, List.nil_append]
    rw [nf_fos m r hr]
theorem flg_back (x : Nat) (h : x ≤ 3) : flg (decide (x % 2 = 1)) (decide (2 ≤ x)) = (x : Int) := by
  have : x = 0 ∨ x = 1 ∨ x = 2 ∨ x = 3 := by omega
  rcases this with rfl | rfl | rfl | rfl <;> rfl
theorem flg_nat (v r : Bool) : ∃ x : Nat, flg v r = (x : Int) ∧ x ≤ 3 ∧ decide (x % 2 = 1) = v ∧ decide (2 ≤ x) = r := by
  cases v <;> cases r
  · exact ⟨0, rfl, by decide, rfl, rfl⟩
  · exact ⟨2, rfl, by decide, rfl, rfl⟩
  · exact ⟨1, rfl, by decide, rfl, rfl⟩
  · exact ⟨3, rfl, by decide, rfl, rfl⟩
theorem tt_again {bs : List Nat} (hB : Byt bs) (h : ttE bs = 0) : enc (ttV bs) = bs.take (ttW bs) := by
  obtain ⟨h1, h2, h5, h3⟩ := ttE_zero h
  have hx := (x_cases bs hB).resolve_right fun e => e.1 h1
  have hi := (i_cases (ttR bs) (byt_drop hB _)).resolve_right fun e => e.1 h2
  have hxb : Byt (xV bs) := by
    unfold xV
    rw [if_pos h1]
    exact byt_take (byt_drop hB _) _
  obtain ⟨x, r, hL⟩ : ∃ x r, ttL bs = x :: r := by
    cases hl : ttL bs with
    | nil => rw [hl] at h5; simp at h5
    | cons x r => exact ⟨x, r, rfl⟩
  have hn : nums (ttV bs) = (ttL bs).map fun n : Nat => (n : Int) := by
    unfold nums ttV
    rw [hL] at h5 h3 ⊢
    simp only [List.getD_cons_zero, List.drop_one, List.tail_cons, List.map_cons] at h3 ⊢
    rw [flg_back x h3, nf_fos (r.length / 5)]
    · rfl
    · rw [zs_len]
      simp at h5
      omega
  have hiv : isV (nums (ttV bs)) = (ttR bs).take (iW (ttR bs)) := by rw [hn]; exact hi.2.2.2.2.2.2
  have hnm : ofS (ttV bs).name = xV bs := by show ofS (sb (xV bs)) = _; exact ofS_sb hxb
  unfold enc
  rw [hnm, hx.2.2.2.2, hiv]
  unfold ttW ttR
  rw [List.take_add]
theorem tt_back {t : Ty} (hn : nm (ofS t.name) = true) (hi : isE (nums t) = 0) (r : List Nat) : ttE (enc t ++ r) = 0 ∧ ttV (enc t ++ r) = t ∧ ttW (enc t ++ r) = (enc t).length := by
  have htx : txV (ofS t.name) = num (ofS t.name).length ++ ofS t.name := by unfold txV; rw [if_pos hn]
  have hx := x_back hn (isV (nums t) ++ r)
  have hb := i_back hi r
  have he : enc t ++ r = num (ofS t.name).length ++ ofS t.name ++ (isV (nums t) ++ r) := by unfold enc; rw [htx]; simp [List.append_assoc]
  rw [← he] at hx
  have hR : ttR (enc t ++ r) = isV (nums t) ++ r := by
    unfold ttR
    rw [hx.2.2, he]
    exact List.drop_left
  obtain ⟨h1, h2⟩ := isE_zero.1 hi
  obtain ⟨x, hxf, hx3, hxv, hxr⟩ := flg_nat t.value t.refs
  have hL : ttL (enc t ++ r) = nats (nums t) := by unfold ttL; rw [hR, hb.2.1]
  have hL2 : nats (nums t) = x :: nats (t.fields.flatMap nf) := by unfold nums nats; rw [List.map_cons, hxf]; simp
  have hok2 : okl (t.fields.flatMap nf) = true := by
    have := h2
    unfold nums okl at this
    rw [List.all_cons] at this
    simp only [Bool.and_eq_true] at this
    exact this.2
  have hE : ttE (enc t ++ r) = 0 := by
    unfold ttE
    rw [if_neg (by rw [hx.1]; decide), if_neg (by rw [hR, hb.1]; decide), if_neg]
    rw [hL, nats_len, nums_len, hL2]
    simp only [List.getD_cons_zero]
    omega
  refine ⟨hE, ?_, ?_⟩
  · unfold ttV
    rw [hx.2.1, hL, hL2]
    simp only [List.getD_cons_zero, List.drop_one, List.tail_cons]
    rw [hxv, hxr, sb_ofS]
    have : zs (nats (t.fields.flatMap nf)) = t.fields.flatMap nf := nats_back hok2
    rw [this, fos_back]
  · unfold ttW
    rw [hx.2.2, hR, hb.2.2]
    unfold enc
    rw [htx]
    simp
    omega
theorem ps_back : ∀ (ts : List Ty) (r : List Nat), (∀ t ∈ ts, nm (ofS t.name) = true ∧ isE (nums t) = 0) → psE ts.length (encs ts ++ r) = 0 ∧ psV ts.length (encs ts ++ r) = ts ∧ psW ts.length (encs ts ++ r) = (encs ts).length
  | [], r, _ => ⟨rfl, rfl, rfl⟩
  | t :: ts, r, h => by
    obtain ⟨h1, h2⟩ := h t (by simp)
    obtain ⟨e1, e2, e3⟩ := tt_back h1 h2 (encs ts ++ r)
    have hc : encs (t :: ts) ++ r = enc t ++ (encs ts ++ r) := by simp [encs]
    have ih := ps_back ts r fun u hu => h u (by simp [hu])
    have hd : (enc t ++ (encs ts ++ r)).drop (enc t).length = encs ts ++ r := List.drop_left
    simp only [List.length_cons, psE, psV, psW]
    rw [hc, e1, e2, e3, hd]
    refine ⟨by simpa using ih.1, by rw [ih.2.1], ?_⟩
    rw [ih.2.2]
    simp [encs]
theorem ps_again : ∀ (n : Nat) (bs : List Nat), Byt bs → psE n bs = 0 → (psV n bs).length = n ∧ psW n bs ≤ bs.length ∧ encs (psV n bs) = bs.take (psW n bs)
  | 0, bs, _, _ => ⟨rfl, by simp [psW], by simp [encs, psV, psW]⟩
  | n + 1, bs, hB, h => by
    simp only [psE] at h
    split at h
    · rename_i h1; exact absurd h h1
    · rename_i h1
      have h0 := Decidable.not_not.1 h1
      have hw := tt_le hB h0
      obtain ⟨i1, i2, i3⟩ := ps_again n (bs.drop (ttW bs)) (byt_drop hB _) h
      rw [List.length_drop] at i2
      refine ⟨by simp [psV, i1], by simp only [psW]; omega, ?_⟩
      simp only [psV, psW]
      have hc : encs (ttV bs :: psV n (bs.drop (ttW bs))) = enc (ttV bs) ++ encs (psV n (bs.drop (ttW bs))) := by simp [encs]
      rw [hc, tt_again hB h0, i3, List.take_add]
/-! ### what passed the checks can be laid down -/
theorem kat_rg {fs : List Fd} {i : Int} (h : kat fs i ≠ 0) : 0 ≤ i ∧ i < fs.length := by
  unfold kat at h
  split at h
  · exact absurd rfl h
  · rename_i hn
    split at h
    · rename_i f hf
      have := (List.getElem?_eq_some_iff.1 hf).1
      omega
    · exact absurd rfl h
theorem fd_small {ts : List Ty} {v : Bool} {f : Fd} (hn : ts.length ≤ 32) (hf : ∀ u ∈ ts, u.fields.length ≤ 12) (h : fdE ts v f = 0) : ∀ x ∈ nf f, 0 ≤ x ∧ x ≤ 2147483647 := by
  obtain ⟨kd, ln, ty, lk, ky⟩ := f
  unfold fdE at h
  simp only at h
  split at h
  · cases h
  rename_i hb
  simp only [Bool.not_eq_false] at hb
  have tg : ∀ (g : Fd → Ty → Nat), (match tgt ts ty with | none => 4 | some u => g ⟨kd, ln, ty, lk, ky⟩ u) = 0 → ∃ u, 0 ≤ ty ∧ ty < 32 ∧ u ∈ ts ∧ g ⟨kd, ln, ty, lk, ky⟩ u = 0 := by
    intro g hg
    unfold tgt at hg
    by_cases h0 : ty < 0
    · rw [if_pos h0] at hg; cases hg
    · rw [if_neg h0] at hg
      cases ht : ts[ty.toNat]? with
      | none => rw [ht] at hg; cases hg
      | some u =>
        rw [ht] at hg
        have := (List.getElem?_eq_some_iff.1 ht).1
        exact ⟨u, by omega, by omega, List.mem_of_getElem? ht, hg⟩
  have hk : kd = 1 ∨ kd = 2 ∨ kd = 3 ∨ kd = 4 ∨ kd = 5 ∨ kd = 6 ∨ kd = 7 := by
    unfold bel at hb
    simp only at hb
    repeat' (split at hb; omega)
    cases hb
  simp only [nf, List.mem_cons, List.not_mem_nil, or_false]
  rcases hk with rfl | rfl | rfl | rfl | rfl | rfl | rfl <;> simp [bel] at hb <;> simp at h
  · rintro x (rfl | rfl | rfl | rfl | rfl) <;> omega
  · obtain ⟨u, h1, h2, _, _⟩ := tg (fun f u => if lead f u = true then 0 else 7) h
    rintro x (rfl | rfl | rfl | rfl | rfl) <;> omega
  · rintro x (rfl | rfl | rfl | rfl | rfl) <;> omega
  · rintro x (rfl | rfl | rfl | rfl | rfl) <;> omega
  · obtain ⟨u, h1, h2, hu, hl⟩ := tg (fun f u => if lead f u = true then 0 else 7) h
    have hl2 : lead ⟨5, ln, ty, lk, ky⟩ u = true := by
      apply Decidable.byContradiction
      intro hc
      rw [if_neg hc] at hl
      cases hl
    simp [lead] at hl2
    have hu2 := hf u hu
    have := kat_rg (fs := u.fields) (i := lk) (by rw [hl2.2]; decide)
    rintro x (rfl | rfl | rfl | rfl | rfl) <;> omega
  · obtain ⟨u, h1, h2, hu, hl⟩ := tg (fun f u => if lead f u = true then 0 else 7) h
    have hl2 : lead ⟨6, ln, ty, lk, ky⟩ u = true := by
      apply Decidable.byContradiction
      intro hc
      rw [if_neg hc] at hl
      cases hl
    simp [lead] at hl2
    have hu2 := hf u hu
    have h3 := kat_rg (fs := u.fields) (i := lk) (by rw [hl2.2.1.2]; decide)
    have h4 := kat_rg (fs := u.fields) (i := ky) (by rw [hl2.2.2]; decide)
    rintro x (rfl | rfl | rfl | rfl | rfl) <;> omega
  · rintro x (rfl | rfl | rfl | rfl | rfl) <;> omega
theorem ck_laid {ts : List Ty} (h : ckE ts = 0) : ∀ t ∈ ts, nm (ofS t.name) = true ∧ isE (nums t) = 0 := by
  obtain ⟨h1, h2, _⟩ := ck_zero h
  have all : ∀ t ∈ ts, nm (ofS t.name) = true ∧ tyE ts t = 0 := fun t ht => by
    obtain ⟨i, hi⟩ := List.mem_iff_getElem?.1 ht
    have := tpE_zero (h2 i (List.getElem?_eq_some_iff.1 hi).1) hi
    exact ⟨this.2.1, this.2.2⟩
  have hf : ∀ t ∈ ts, t.fields.length ≤ 12 := fun t ht => (tyE_zero (all t ht).2).1
  intro t ht
  refine ⟨(all t ht).1, isE_zero.2 ⟨?_, ?_⟩⟩
  · have := hf t ht
    rw [nums_len]
    omega
  · unfold okl
    rw [List.all_eq_true]
    intro x hx
    rw [decide_eq_true_eq]
    unfold nums at hx
    rcases List.mem_cons.1 hx with rfl | hx
    · obtain ⟨y, e, hy, _⟩ := flg_nat t.value t.refs
      omega
    · obtain ⟨f, hff, hxf⟩ := List.mem_flatMap.1 hx
      exact fd_small h1 hf ((tyE_zero (all t ht).2).2.2.1 f hff) x hxf
theorem pa_back {ts : List Ty} (h : ckE ts = 0) (r : List Nat) : paE (byV ts ++ r) = 0 ∧ paV (byV ts ++ r) = ts ∧ paW (byV ts ++ r) = (byV ts).length := by
  have hl := (ck_zero h).1
  have hb : byV ts = num ts.length ++ encs ts := by unfold byV; rw [if_pos h]
  have hk := tk_num (n := ts.length) (by omega) (encs ts ++ r)
  rw [← List.append_assoc, ← hb, tk_parts] at hk
  injection hk with k1 hk
  injection hk with k2 k3
  have hR : paR (byV ts ++ r) = encs ts ++ r := by
    unfold paR
    rw [k2, hb, List.append_assoc]
    exact List.drop_left
  obtain ⟨p1, p2, p3⟩ := ps_back ts r (ck_laid h)
  have hE : paE (byV ts ++ r) = 0 := by rw [pa_ck k3 (by omega) (by rw [k1, hR]; exact p1), k1, hR, p2]; exact h
  obtain ⟨v, w⟩ := pa_ok hE
  refine ⟨hE, by rw [v, k1, hR]; exact p2, ?_⟩
  rw [w, k1, k2, hR, p3, hb]
  simp
theorem pa_again {bs : List Nat} (hB : Byt bs) (h : paE bs = 0) : ckE (paV bs) = 0 ∧ paW bs ≤ bs.length ∧ byV (paV bs) = bs.take (paW bs) := by
  obtain ⟨h1, h2, h3, h4⟩ := pa_parts h
  obtain ⟨v, w⟩ := pa_ok h
  have ht := (tk_cases bs hB).resolve_right fun e => by omega
  obtain ⟨i1, i2, i3⟩ := ps_again (tN bs) (paR bs) (byt_drop hB _) h3
  have hl : (paR bs).length = bs.length - tW bs := by unfold paR; rw [List.length_drop]
  rw [← v] at h4 i1 i3
  refine ⟨h4, by omega, ?_⟩
  have hb : byV (paV bs) = num (paV bs).length ++ encs (paV bs) := by unfold byV; rw [if_pos h4]
  rw [hb, i1, i3, w, ht.2.2.2.2.2]
  unfold paR
  rw [List.take_add]
end Go.Proofs.Ytnkjlocjfljjlaa
