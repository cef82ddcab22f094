/- TypesOrder: a type more at the end, in the mind; the walk. Condition: the arguments can be read. -/
import Derived.Test.YtnkjlocjfljjlaaTParse
import Derived.Test.YtnkjlocjfljjlaaTChecks
import Derived.Test.YtnkjlocjfljjlaaWLaw
import Derived.Deep.RegionHeld3
namespace Go.Proofs.Ytnkjlocjfljjlaa
open Go.RowKit
set_option maxRecDepth 100000
set_option maxHeartbeats 4000000
/-- No type of ts is counted, and none of its fields names the type behind the last. -/
def Nob (ts : List Ty) (N : Nat) : Prop := ∀ u ∈ ts, u.refs = false ∧ ∀ f ∈ u.fields, f.ty ≠ (N : Int)
theorem tgt_more (ts : List Ty) (t : Ty) {i : Int} (h : i ≠ (ts.length : Int)) : tgt (ts ++ [t]) i = tgt ts i := by
  unfold tgt
  by_cases h0 : i < 0
  · rw [if_pos h0, if_pos h0]
  · rw [if_neg h0, if_neg h0]
    rcases Nat.lt_or_ge i.toNat ts.length with h1 | h1
    · rw [List.getElem?_append_left h1]
    · rw [List.getElem?_eq_none h1, List.getElem?_eq_none]
      simp
      omega
theorem fdE_more (ts : List Ty) (t : Ty) (v : Bool) {f : Fd} (h : f.ty ≠ (ts.length : Int)) : fdE (ts ++ [t]) v f = fdE ts v f := by
  unfold fdE
  rw [tgt_more ts t h]
theorem firstE_congr {α : Type} {g g' : α → Nat} : ∀ {l : List α}, (∀ x ∈ l, g x = g' x) → firstE g l = firstE g' l
  | [], _ => rfl
  | x :: r, h => by
    unfold firstE
    rw [h x (by simp), firstE_congr fun y hy => h y (by simp [hy])]
theorem tyE_more {ts : List Ty} (t : Ty) {u : Ty} (h : ∀ f ∈ u.fields, f.ty ≠ (ts.length : Int)) : tyE (ts ++ [t]) u = tyE ts u := by
  unfold tyE
  rw [firstE_congr fun f hf => fdE_more ts t u.value (h f hf)]
theorem dup_more (ts : List Ty) (t : Ty) {i : Nat} (s : ByteArray) (h : i ≤ ts.length) : dup (ts ++ [t]) i s = dup ts i s := by
  unfold dup
  rw [List.take_append_of_le_length h]
theorem tpE_more {ts : List Ty} (t : Ty) (hn : Nob ts ts.length) {i : Nat} (h : i < ts.length) : tpE (ts ++ [t]) i = tpE ts i := by
  unfold tpE
  rw [List.getElem?_append_left h, List.getElem?_eq_getElem h]
  simp only
  rw [dup_more ts t _ (by omega), tyE_more t (hn _ (List.getElem_mem h)).2]
theorem rfE_nob {ts : List Ty} (h : ∀ u ∈ ts, u.refs = false) (i : Nat) : rfE ts i = 0 := by
  unfold rfE
  cases ht : ts[i]? with
  | none => rfl
  | some t =>
    simp only
    rw [h t (List.mem_of_getElem? ht)]
    simp
theorem ck_more {ts : List Ty} {t : Ty} (hn : Nob ts ts.length) (hl : ts.length < 32) (ht : t.refs = false) :
    (ckE ts ≠ 0 → ckI (ts ++ [t]) = ckI ts ∧ ckE (ts ++ [t]) = ckE ts) ∧ (ckE ts = 0 → (ckE (ts ++ [t]) = 0 ∧ ckI (ts ++ [t]) = 0) ∨ (ckE (ts ++ [t]) ≠ 0 ∧ ckI (ts ++ [t]) = ts.length)) := by
  have hb : ¬ 32 < ts.length := by omega
  have hb2 : ¬ 32 < (ts ++ [t]).length := by simp; omega
  have hr : ∀ j, j < ts.length → rfE ts j = 0 := fun j _ => rfE_nob (fun u hu => (hn u hu).1) j
  have hr2 : ∀ j, j < (ts ++ [t]).length → rfE (ts ++ [t]) j = 0 := fun j _ => rfE_nob (fun u hu => by
    rcases List.mem_append.1 hu with h1 | h1
    · exact (hn u h1).1
    · obtain rfl := List.mem_singleton.1 h1
      exact ht) j
  constructor
  · intro he
    cases hf : findE (tpE ts) ts.length with
    | none => exact absurd (ck_ok hb (findE_of_none hf) hr).2 he
    | some i =>
      obtain ⟨i1, i2, i3⟩ := findE_of_some hf
      have a := ck_one hb i1 i3 i2
      have b := ck_one (ts := ts ++ [t]) (i := i) hb2 (by simp; omega) (fun j hj => by rw [tpE_more t hn (by omega)]; exact i3 j hj) (by rw [tpE_more t hn i1]; exact i2)
      rw [a.1, a.2, b.1, b.2, tpE_more t hn i1]
      exact ⟨rfl, rfl⟩
  · intro he
    have hz := (ck_zero he).2.1
    by_cases h0 : tpE (ts ++ [t]) ts.length = 0
    · have c := ck_ok (ts := ts ++ [t]) hb2 (fun j hj => by
        simp at hj
        rcases Nat.lt_or_ge j ts.length with h1 | h1
        · rw [tpE_more t hn h1]; exact hz j h1
        · obtain rfl : j = ts.length := by omega
          exact h0) hr2
      exact .inl ⟨c.2, c.1⟩
    · have c := ck_one (ts := ts ++ [t]) (i := ts.length) hb2 (by simp) (fun j hj => by rw [tpE_more t hn hj]; exact hz j hj) h0
      exact .inr ⟨by rw [c.2]; exact h0, c.1⟩
/-- A slice of types, with the slices that their fields lie in. -/
theorem Lt.tqs {w : World} {b o n cap : Nat} {ts : List Ty} (h : Lt w (some ⟨b, o, none⟩) n cap ts) : ∃ l : List Tq, l.map (·.t) = ts ∧ (∀ j u, (tcs l)[j]? = some u → w.cell? ⟨b, o + j, none⟩ = some u) ∧ ∀ q ∈ l, q.t.name.size ≤ 9223372036854775807 ∧ Lf w q.A q.k q.c q.t.fields := by
  obtain ⟨l, hl, hr⟩ := list_of (fun i (q : Tq) => ts[i]? = some q.t ∧ q.t.name.size ≤ 9223372036854775807 ∧ Lf w q.A q.k q.c q.t.fields ∧
      w.cell? ⟨b, o + i * 4, none⟩ = some (.string q.t.name) ∧ w.cell? ⟨b, o + i * 4 + 1, none⟩ = some (.bool q.t.value) ∧ w.cell? ⟨b, o + i * 4 + 2, none⟩ = some (.bool q.t.refs) ∧ w.cell? ⟨b, o + i * 4 + 3, none⟩ = some (.slice q.A q.k q.c)) n (fun i hi => by
    obtain ⟨b', o', t, FA, fk, fc, e, hu, hnm, hb, c0, c1, c2, c3, hf⟩ := h.at i hi
    injection e with e
    injection e with e1 e2
    subst e1 e2
    exact ⟨⟨t, FA, fk, fc⟩, hu.out, hnm, hf.out, c0, c1, c2, c3⟩)
  refine ⟨l, ?_, ?_, ?_⟩
  · apply List.ext_getElem?
    intro i
    rw [List.getElem?_map]
    rcases Nat.lt_or_ge i n with h1 | h1
    · have h2 : i < l.length := by omega
      rw [List.getElem?_eq_getElem h2]
      exact ((hr i _ (List.getElem?_eq_getElem h2)).1).symm
    · rw [List.getElem?_eq_none (by omega), List.getElem?_eq_none (by rw [h.len]; exact h1)]
      rfl
  · intro j u hu
    have hj : j < l.length * 4 := by
      have := (List.getElem?_eq_some_iff.1 hu).1
      rwa [tcs_len] at this
    have h2 : j / 4 < l.length := by omega
    obtain ⟨_, _, _, c0, c1, c2, c3⟩ := hr (j / 4) _ (List.getElem?_eq_getElem h2)
    have hm : j % 4 = 0 ∨ j % 4 = 1 ∨ j % 4 = 2 ∨ j % 4 = 3 := by omega
    have key : ∀ r v, j % 4 = r → (tc4 l[j / 4])[r]? = some v → u = v := by
      intro r v hr2 hv
      have := tcs_at (List.getElem?_eq_getElem h2) r v hv
      have e : j / 4 * 4 + r = j := by omega
      rw [e, hu] at this
      injection this
    rcases hm with hm | hm | hm | hm
    · rw [key 0 _ hm rfl, ← c0]
      congr 2
      omega
    · rw [key 1 _ hm rfl, ← c1]
      congr 2
      omega
    · rw [key 2 _ hm rfl, ← c2]
      congr 2
      omega
    · rw [key 3 _ hm rfl, ← c3]
      congr 2
      omega
  · intro q hq
    obtain ⟨i, hi⟩ := List.mem_iff_getElem?.1 hq
    have := hr i q hi
    exact ⟨this.2.1, this.2.2.1⟩
theorem step_append_own {P : Program} (w : World) {ops : Array Oper} {o : Oper} {a : Act} {K : Act → World → Prop} {Q : Exit → Act → World → Prop} {E : Prop} (hgd : o.guard = none) (s x : Operand) (t : TypeId)
    (ho : o.op = .call { callee := .builtin .append, args := #[s, x], argTypes := #[t, t] })
    (base : Nat) (e : TypeId) (i : TypeInfo) (z : Value) (size bytes : Nat) (ht : P.underlying t = some (.slice e)) (hi : P.info? e = some i) (hz : i.zero = some z)
    (hsize : i.size = size) (hby : i.bytes = bytes) (hzs : z.cells.size = size) (hsz : 0 < size)
    (v : Value) (n : Nat) (xs : List Value) (hs : a.eval s = v) (hown : w.ownsRow base e size v n xs)
    (ad : Addr) (m c : Nat) (news : List Value) (hx : a.eval x = .slice (some ad) m c) (hl : news.length = m * size) (hnews : ∀ j u, news[j]? = some u → w.cell? (ad.add j) = some u) (h1 : ∀ u ∈ news, u.oneCell' = true)
    (h63 : n + m ≤ maxLen) (hbytes : (n + m) * bytes ≤ 140737488355328) (hbase : base ≤ w.heap.size)
    (h : ∀ v' w', w'.ownsRow base e size v' (n + m) (xs ++ news) → w.grownBy w' v.ownBlock → K (a.put o.dst v') w') :
    if Region.wanted o (yielded ops a.tmps) = true then Oper.wp P o a w K Q else E := by
  have hw : Region.wanted o (yielded ops a.tmps) = true := by simp [Region.wanted, hgd]
  rw [if_pos hw]
  exact wp_append_own w s x t ho base e i z size bytes ht hi hz hsize hby hzs hsz v n xs hs hown ad m c news hx hl hnews h1 h63 hbytes hbase fun v' w' h2 h3 _ => h v' w' h2 h3
/-- append of a slice of types onto an empty row of the call's own, as one step of a region that draws. -/
theorem step_all {w W : World} {ops : Array Oper} {o : Oper} {a : Act} {K : Act → World → Prop} {Q : Exit → Act → World → Prop} {E : Prop} (hgd : o.guard = none) (s x : Operand)
    (ho : o.op = .call { callee := .builtin .append, args := #[s, x], argTypes := #[22, 22] })
    (g : Nat) (ad : Addr) (n cap : Nat) (l : List Tq) (hs : a.eval s = .slice (some ⟨g, 0, none⟩) 0 0) (hg : W.heap[g]? = some (.cells #[] 32 (0, 0))) (hx : a.eval x = .slice (some ad) n cap)
    (hb : Below w.heap.size w W) (hc : ∀ j u, (tcs l)[j]? = some u → W.cell? (ad.add j) = some u) (hwg : w.heap.size ≤ g) (hl : l.length = n) (hn : n ≤ 100)
    (h : ∀ v' w', Ot w' w.heap.size v' l → W.grownBy w' (some g) → Below w.heap.size w w' → K (a.put o.dst v') w') :
    if Region.wanted o (yielded ops a.tmps) = true then Oper.wp Try.prog o a W K Q else E := by
  obtain ⟨i0, hi, hz0, hz1, hz2⟩ := info_parts infoT4
  refine step_append_own W hgd s x 22 ho w.heap.size 32 i0 _ 4 48 Try.underlying22 hi hz0 hz1 hz2 (by kernel_rfl) (by decide) (.slice (some ⟨g, 0, none⟩) 0 0) 0 [] hs
    ⟨rfl, .inr ⟨g, 0, _, rfl, hwg, hg, Nat.le_refl _, by decide, rfl, rfl⟩⟩ ad n cap (tcs l) hx (by rw [tcs_len, hl]) hc (tcs_one l) (by unfold maxLen; omega) (by omega) hb.size ?_
  intro v' w' h1 h2
  refine h v' w' ?_ h2 (hb.grown h2 hb.size (fun k hk => by
    have e : g = k := by simpa [Value.ownBlock] using hk
    omega))
  unfold Ot
  rw [hl]
  rw [Nat.zero_add, List.nil_append] at h1
  exact h1
/-- append of nothing. -/
theorem step_nil {W : World} {ops : Array Oper} {o : Oper} {a : Act} {K : Act → World → Prop} {Q : Exit → Act → World → Prop} {E : Prop} (hgd : o.guard = none) (s x : Operand)
    (ho : o.op = .call { callee := .builtin .append, args := #[s, x], argTypes := #[22, 22] })
    (g cap : Nat) (hs : a.eval s = .slice (some ⟨g, 0, none⟩) 0 0) (hx : a.eval x = .slice none 0 cap)
    (h : K (a.put o.dst (.slice (some ⟨g, 0, none⟩) 0 0)) W) :
    if Region.wanted o (yielded ops a.tmps) = true then Oper.wp Try.prog o a W K Q else E := by
  obtain ⟨i, hi, hz, hsz, hby⟩ := info_parts infoT4
  have hw : Region.wanted o (yielded ops a.tmps) = true := by simp [Region.wanted, hgd]
  rw [if_pos hw]
  have ht := Try.underlying22
  have hs' := Src.ofNil (P := Try.prog) (size := i.size) W Try.underlying22 cap
  have hr : (Builtin.append_ #[22, 22] o.type #[.slice (some ⟨g, 0, none⟩) 0 0, .slice none 0 cap]).run Try.prog W = .ok (.slice (some ⟨g, 0, none⟩) 0 0) W := by
    have hl := hs'.len
    have hc := hs'.cells
    simp [Builtin.append_, run_underlying ht, sizeOf, typeInfo, hi, hl, hc, storeCells]
  unfold Oper.wp execOp
  simp only [ho, resolve, invoke, builtin, Sem.run_bind, Sem.run_pure, Result.andThen_ok, List.map_toArray, List.map_cons, List.map_nil, hs, hx, hr]
  exact h
theorem ot_zero {W : World} {B g : Nat} (hB : B ≤ g) (hg : W.heap[g]? = some (.cells #[] 32 (0, 0))) : Ot W B (.slice (some ⟨g, 0, none⟩) 0 0) [] :=
  ⟨rfl, .inr ⟨g, 0, _, rfl, hB, hg, Nat.le_refl _, by decide, rfl, rfl⟩⟩
/-- append of one type more. -/
theorem step_one {w W : World} {ops : Array Oper} {o : Oper} {a : Act} {K : Act → World → Prop} {Q : Exit → Act → World → Prop} {E : Prop} (hgd : o.guard = none) (s x : Operand)
    (ho : o.op = .call { callee := .builtin .append, args := #[s, x], argTypes := #[22, 22] })
    (v : Value) (l : List Tq) (q : Tq) (g : Nat) (hs : a.eval s = v) (hv : Ot W w.heap.size v l) (hx : a.eval x = .slice (some ⟨g, 0, none⟩) 1 1) (hg : W.heap[g]? = some (.cells #[.string q.t.name, .bool q.t.value, .bool q.t.refs, .slice q.A q.k q.c] 32 (0, 0)))
    (hb : Below w.heap.size w W) (hn : l.length ≤ 100)
    (h : ∀ v' w', Ot w' w.heap.size v' (l ++ [q]) → Below w.heap.size w w' → K (a.put o.dst v') w') :
    if Region.wanted o (yielded ops a.tmps) = true then Oper.wp Try.prog o a W K Q else E := by
  obtain ⟨i0, hi, hz0, hz1, hz2⟩ := info_parts infoT4
  refine step_append_own W hgd s x 22 ho w.heap.size 32 i0 _ 4 48 Try.underlying22 hi hz0 hz1 hz2 (by kernel_rfl) (by decide) v l.length (tcs l) hs hv ⟨g, 0, none⟩ 1 1 (tc4 q) hx rfl (fun j u hu => ?_) (fun u hu => tcs_one [q] u (by simpa [tcs] using hu)) (by unfold maxLen; omega) (by omega) hb.size ?_
  · rw [addr_add, cell_of_row W g _ _ _ _ hg]
    simpa [tc4] using hu
  · intro v' w' h1 h2
    refine h v' w' ?_ (hb.grown h2 hb.size (fun k hk => (hv.lt hk).1))
    unfold Ot
    rw [tcs_app, List.length_append]
    simpa [tcs] using h1
theorem order_walk (A : Option Addr) (n cap : Nat) (t : Ty) (FA : Option Addr) (fk fc : Nat) (w : World) (h : ∃ ts, Lt w A n cap ts) (ht : t.name.size ≤ 9223372036854775807 ∧ Lf w FA fk fc t.fields) :
    Calls Try.prog 9 #[.slice A n cap, .agg #[.string t.name, .bool t.value, .bool t.refs, .slice FA fk fc]] w fun e w' => e = .returned (.bool true) ∧ Below w.heap.size w w' := by
  obtain ⟨ts, h⟩ := h
  have hle := h.le
  have hmx := h.max
  have HL := Lib.hid h.len
  have H := Lib.hid h
  obtain ⟨tn, tv, tr, fs⟩ := t
  simp only at ht ⊢
  obtain ⟨hnm, hLf⟩ := ht
  have HF := Lib.hid hLf
  clear h hLf
  obtain ⟨w0, hw0⟩ : ∃ w0, w0 = w.alloc (Obj.cells #[.string tn, .bool tv, .bool tr, .slice FA fk fc] 32) := ⟨_, rfl⟩
  have B0 := Lib.hid (show Blk w0 w.heap.size 32 #[.string tn, .bool tv, .bool tr, .slice FA fk fc] by rw [hw0]; exact Blk.new _ _ _)
  have L0 := Lib.hid (show Below w.heap.size w w0 by rw [hw0]; exact (Below.refl _ _).alloc (Nat.le_refl _) _)
  have S0 : w0.heap.size = w.heap.size + 1 := by rw [hw0]; simp
  have HW0 := Lib.hid hw0
  have SS := Lib.hid S0
  clear hw0 S0
  obtain ⟨q, hq⟩ : ∃ q, ckE ts = q := ⟨_, rfl⟩
  obtain ⟨p, hp⟩ : ∃ p, ckI ts = p := ⟨_, rfl⟩
  have HQ := Lib.hid (And.intro hq hp)
  clear hq hp
  by_cases hbig : 32 ≤ n
  · have hbi : (32 : Int) ≤ (n : Int) := by omega
    go_enter Try.func9, Try.ntmps9
    go_wp2_with (go_at_call 11; rw [← HW0.out]; refine (shown_any).mono ?_; rintro e w1 ⟨rfl, h1⟩; have X1 := Lib.hid (L0.out.trans (h1.mono (by rw [SS.out]; omega))); clear h1)
    go_ret
    exact ⟨rfl, X1.out⟩
  have hbi : ¬ (32 : Int) ≤ (n : Int) := by omega
  go_enter Try.func9, Try.ntmps9
  go_wp2_with (go_at_call 11; rw [← HW0.out]; refine (shown_any).mono ?_; rintro e w1 ⟨rfl, h1⟩; have X1 := Lib.hid (L0.out.trans (h1.mono (by rw [SS.out]; omega))); have B1 := Lib.hid (B0.out.below h1 (by rw [SS.out]; omega)); have hs1 := h1.size; rw [SS.out] at hs1; clear h1)
  go_wp2_with (go_at_call 12; refine (check_any _ n cap ts (H.out.below X1.out (Nat.le_refl _))).mono ?_; rintro e w2 ⟨rfl, h2⟩; rw [HQ.out.1, HQ.out.2]; have X2 := Lib.hid (X1.out.trans (h2.mono X1.out.size)); have B2 := Lib.hid (B1.out.below h2 (by omega)); have hs2 := h2.size; clear h2)
  go_loopw [8] (fun i wr => ∃ j : Nat, j ≤ n ∧ i = .int .i64 j ∧ Hid (∀ (x : Nat) (u : Ty), x < j → ts[x]? = some u → u.refs = false ∧ ∀ f ∈ u.fields, f.ty ≠ (n : Int)) ∧ Hid (Below w.heap.size w wr) ∧ Hid (Blk wr w.heap.size 32 #[.string tn, .bool tv, .bool tr, .slice FA fk fc])) (fun i _ => n - (intOf i).toNat)
  case atStart => exact ⟨0, Nat.zero_le _, rfl, fun x u hx => absurd hx (by omega), X2.out, B2.out⟩
  case round =>
    clear X1 B1 X2 B2
    obtain ⟨j, hj, rfl, HN, HW, HB⟩ := hrel
    have hws := HW.out.size
    by_cases hlt : j < n
    · obtain ⟨b, o, u, UA, uk, uc, rfl, hu, hun, hb, c0, c1, c2, c3, hf⟩ := H.out.at j hlt
      have hji : (j : Int) < (n : Int) := by omega
      obtain ⟨un, uv, ur, us⟩ := u
      simp only at c0 c1 c2 hf
      have hfl := hf.out.le
      have hfm := hf.out.max
      have HUL := Lib.hid hf.out.len
      have C3 := Lib.hid c3
      replace c2 := (HW.out.cell (p := ⟨b, o + j * 4 + 2, none⟩) hb).trans c2
      clear c0 c1 c3
      cases ur
      case true =>
        go_wp2_with fail
        go_ret
        exact ⟨rfl, HW.out⟩
      go_wp2_with fail
      go_loopw [9] (fun i wr => ∃ m : Nat, m ≤ uk ∧ i = .int .i64 m ∧ Hid (∀ (x : Nat) (f : Fd), x < m → us[x]? = some f → f.ty ≠ (n : Int)) ∧ Hid (Below w.heap.size w wr) ∧ Hid (Blk wr w.heap.size 32 #[.string tn, .bool tv, .bool tr, .slice FA fk fc])) (fun i _ => uk - (intOf i).toNat)
      case atStart => exact ⟨0, Nat.zero_le _, rfl, fun x u hx => absurd hx (by omega), HW.out, HB.out⟩
      case round =>
        clear HW HB c2 hws
        obtain ⟨m, hm, rfl, HM, HW, HB⟩ := hrel
        have c3 := (HW.out.cell (p := ⟨b, o + j * 4 + 3, none⟩) hb).trans C3.out
        by_cases hlm : m < uk
        · obtain ⟨fb, fo, f, rfl, hf1, hok, hfb, g0, g1, g2, g3, g4⟩ := (hf.out.below HW.out (Nat.le_refl _)).at m hlm
          have hmi : (m : Int) < (uk : Int) := by omega
          obtain ⟨kd, ln, ty, lk, ky⟩ := f
          simp only at g0 g1 g2 g3 g4
          have hty := hok.ty
          unfold Rg at hty
          simp only at hty
          clear hok
          by_cases hen : ty = (n : Int)
          · have hen2 : (ty == (n : Int)) = true := by simpa using hen
            clear hen
            go_wp2_with fail
            go_ret
            exact ⟨rfl, HW.out⟩
          · have HEN := Lib.hid hen
            have hen2 : (ty == (n : Int)) = false := by simpa using hen
            clear hen
            go_wp2_with fail
            go_roundw
            case rel =>
              refine ⟨m + 1, by omega, by go_num, ?_, HW.out, HB.out⟩
              intro x f hx hf2
              rcases Nat.lt_or_ge x m with h1 | h1
              · exact HM.out x f h1 hf2
              · obtain rfl : x = m := by omega
                rw [hf1.out] at hf2
                injection hf2 with hf2
                subst hf2
                exact HEN.out
            case measure => simp [intOf]; omega
        · obtain rfl : m = uk := by omega
          go_wp2_with fail
          go_roundw
          case rel =>
            refine ⟨j + 1, by omega, by go_num, ?_, HW.out, HB.out⟩
            intro x u hx hu2
            rcases Nat.lt_or_ge x j with h1 | h1
            · exact HN.out x u h1 hu2
            · obtain rfl : x = j := by omega
              rw [hu.out] at hu2
              injection hu2 with hu2
              subst hu2
              refine ⟨rfl, fun f hf2 => ?_⟩
              obtain ⟨y, hy⟩ := List.mem_iff_getElem?.1 hf2
              have hyl := (List.getElem?_eq_some_iff.1 hy).1
              have hul := HUL.out
              simp only at hyl hul
              exact HM.out y f (by omega) hy
          case measure => simp [intOf]; omega
    · obtain rfl : j = n := by omega
      have HNO := Lib.hid (show Nob ts ts.length from fun u hu => by
        obtain ⟨y, hy⟩ := List.mem_iff_getElem?.1 hu
        have hyl := (List.getElem?_eq_some_iff.1 hy).1
        have hl := HL.out
        have := HN.out y u (by omega) hy
        rw [hl]
        exact this)
      obtain ⟨q2, hq2⟩ : ∃ q2, ckE (ts ++ [⟨tn, tv, false, fs⟩]) = q2 := ⟨_, rfl⟩
      obtain ⟨p2, hp2⟩ : ∃ p2, ckI (ts ++ [⟨tn, tv, false, fs⟩]) = p2 := ⟨_, rfl⟩
      have hcm := ck_more (t := ⟨tn, tv, false, fs⟩) HNO.out (by rw [HL.out]; omega) rfl
      rw [HQ.out.1, HQ.out.2, hq2, hp2, HL.out] at hcm
      have HCM := Lib.hid hcm
      have HQ2 := Lib.hid (And.intro hq2 hp2)
      clear hq2 hp2 hcm
      have z2 := HB.out.frozen 2
      have d2 := HB.out.cell 2
      simp at d2
      obtain ⟨w5, hw5⟩ : ∃ w5, w5 = wr.setCell ⟨w.heap.size, 2, none⟩ (.bool false) := ⟨_, rfl⟩
      have B5 := Lib.hid (show Blk w5 w.heap.size 32 #[.string tn, .bool tv, .bool false, .slice FA fk fc] by rw [hw5]; exact HB.out.put 2 _)
      have X5 := Lib.hid (show Below w.heap.size w w5 by rw [hw5]; exact HW.out.setCell (Nat.le_refl _) _)
      have HW5 := Lib.hid hw5
      clear hw5
      go_wp2_with fail
      rw [← HW5.out]
      obtain ⟨e0, e1, e2, e3⟩ := four B5.out (Below.refl w5.heap.size w5) B5.out.lt
      have hs5 := X5.out.size
      have hlt5 := B5.out.lt
      clear z2 d2
      cases A with
      | none =>
        have hn0 : j = 0 := by
          rcases Nat.eq_zero_or_pos j with h0 | h0
          · exact h0
          · obtain ⟨b, o, _, _, _, _, e, _⟩ := H.out.at 0 h0
            cases e
        have hts : ts = [] := by
          have := HL.out
          rw [hn0] at this
          exact List.eq_nil_of_length_eq_zero this
        subst hn0
        have HMT := Lib.hid (show ([] ++ [(⟨⟨tn, tv, false, fs⟩, FA, fk, fc⟩ : Tq)]).map (fun q : Tq => q.t) = ts ++ [⟨tn, tv, false, fs⟩] by rw [hts]; rfl)
        have HLQ := Lib.hid (show ∀ q ∈ [] ++ [(⟨⟨tn, tv, false, fs⟩, FA, fk, fc⟩ : Tq)], q.t.name.size ≤ 9223372036854775807 ∧ Lf w5 q.A q.k q.c q.t.fields from fun q hq => by
          obtain rfl := List.mem_singleton.1 hq
          exact ⟨hnm, HF.out.below X5.out (Nat.le_refl _)⟩)
        clear hts
        obtain ⟨Wc, hWc⟩ : ∃ Wc, Wc = (w5.alloc (Obj.cells #[] 32)).drew := ⟨_, rfl⟩
        have Gc := Lib.hid (show Wc.heap[w5.heap.size]? = some (.cells #[] 32 (0, 0)) by rw [hWc]; exact heap_alloc_new w5 _)
        have Bc := Lib.hid (show Below w5.heap.size w5 Wc by rw [hWc]; exact ((Below.refl w5.heap.size w5).alloc (Nat.le_refl _) _).drew)
        have HWc := Lib.hid hWc
        obtain ⟨Wb, hWb⟩ : ∃ Wb, Wb = ((w5.alloc (Obj.cells #[] 32)).alloc (Obj.cells #[.string tn, .bool tv, .bool false, .slice FA fk fc] 32)).drew := ⟨_, rfl⟩
        have Gb := Lib.hid (show Blk Wb w5.heap.size 32 #[] by rw [hWb]; exact (Blk.new w5 _ _).alloc _)
        have Sb := Lib.hid (show Blk Wb (w5.heap.size + 1) 32 #[.string tn, .bool tv, .bool false, .slice FA fk fc] by rw [hWb]; exact blk_new (w := w5.alloc (Obj.cells #[] 32)) (by simp) _ _)
        have Bb := Lib.hid (show Below w5.heap.size w5 Wb by rw [hWb]; exact (((Below.refl w5.heap.size w5).alloc (Nat.le_refl _) _).alloc (by simp) _).drew)
        have Zb := Lib.hid (show Wb.heap.size = w5.heap.size + 2 by rw [hWb]; simp)
        have HWb := Lib.hid hWb
        obtain ⟨Wa, hWa⟩ : ∃ Wa, Wa = ((w5.alloc (Obj.cells #[.string tn, .bool tv, .bool false, .slice FA fk fc] 32)).alloc (Obj.cells #[] 32)).drew := ⟨_, rfl⟩
        have Ga := Lib.hid (show Blk Wa (w5.heap.size + 1) 32 #[] by rw [hWa]; exact blk_new (w := w5.alloc (Obj.cells #[.string tn, .bool tv, .bool false, .slice FA fk fc] 32)) (by simp) _ _)
        have Sa := Lib.hid (show Blk Wa w5.heap.size 32 #[.string tn, .bool tv, .bool false, .slice FA fk fc] by rw [hWa]; exact (Blk.new w5 _ _).alloc _)
        have Ba := Lib.hid (show Below w5.heap.size w5 Wa by rw [hWa]; exact (((Below.refl w5.heap.size w5).alloc (Nat.le_refl _) _).alloc (by simp) _).drew)
        have Za := Lib.hid (show Wa.heap.size = w5.heap.size + 2 by rw [hWa]; simp)
        have HWa := Lib.hid hWa
        clear hWc hWb hWa
        go_region_held3 (fun w' => w'.cell? ⟨w.heap.size, 0, none⟩ = some (.string tn) ∧ w'.cell? ⟨w.heap.size, 1, none⟩ = some (.bool tv) ∧ w'.cell? ⟨w.heap.size, 2, none⟩ = some (.bool false) ∧ w'.cell? ⟨w.heap.size, 3, none⟩ = some (.slice FA fk fc)) (first | (with_reducible exact four B5.out X7.out hlt5) | (with_reducible exact four B5.out X6.out hlt5) | (with_reducible exact four B5.out X4.out hlt5) | (with_reducible exact four B5.out Bc.out hlt5) | go_keep | exact four B5.out (Bc.out.alloc Bc.out.size _) hlt5)
          (first
            | (rw [← HWc.out]; refine step_nil (by rfl) (.tmp 59) (.tmp 60) (by rfl) w5.heap.size cap (by rfl) (by rfl) ?_; have X4 := Bc; have G4 := Gc)
            | (rw [← HWb.out]; refine step_nil (by rfl) (.tmp 59) (.tmp 60) (by rfl) w5.heap.size cap (by rfl) (by rfl) ?_; have X4 := Bb; have G4 := Gb; have S4 := Sb)
            | (rw [← HWa.out]; refine step_nil (by rfl) (.tmp 59) (.tmp 60) (by rfl) (w5.heap.size + 1) cap (by rfl) (by rfl) ?_; have X4 := Ba; have G4 := Ga; have S4 := Sa)
            | (refine step_one (w := w5) (by rfl) (.tmp 61) (.tmp 63) (by rfl) _ [] ⟨⟨tn, tv, false, fs⟩, FA, fk, fc⟩ _ (by rfl) (ot_zero (by omega) G4.out) (by rfl) S4.out X4.out (by simp) ?_; intro v6 w6 h1 h2; obtain ⟨A6, k6, c6, rfl, lt6⟩ := h1.form (fun q hq => ⟨(HLQ.out q hq).1, (HLQ.out q hq).2.below h2 (Nat.le_refl _)⟩); rw [HMT.out] at lt6; have LT6 := Lib.hid lt6; have X6 := Lib.hid h2; clear h1 h2 lt6)
            | (refine step_one (w := w5) (W := Wc.alloc (Obj.cells #[.string tn, .bool tv, .bool false, .slice FA fk fc] 32)) (by rfl) (.tmp 61) (.tmp 63) (by rfl) _ [] ⟨⟨tn, tv, false, fs⟩, FA, fk, fc⟩ Wc.heap.size (by rfl) (Ot.alloc (ot_zero (by omega) Gc.out) _) (by rfl) (heap_alloc_new Wc _) (Bc.out.alloc Bc.out.size _) (by simp) ?_; intro v6 w6 h1 h2; obtain ⟨A6, k6, c6, rfl, lt6⟩ := h1.form (fun q hq => ⟨(HLQ.out q hq).1, (HLQ.out q hq).2.below h2 (Nat.le_refl _)⟩); rw [HMT.out] at lt6; have LT6 := Lib.hid lt6; have X6 := Lib.hid h2; clear h1 h2 lt6)
            | (go_at_call 12; (with_reducible refine (check_any _ _ _ _ LT6.out).mono ?_); rintro e w7 ⟨rfl, h7⟩; rw [HQ2.out.1, HQ2.out.2]; have X7 := Lib.hid (X6.out.trans (h7.mono X6.out.size)); clear h7))
        all_goals
          replace X7 := Lib.hid (X5.out.trans (X7.out.mono hs5))
          by_cases hq : q = 0
          · rcases HCM.out.2 hq with ⟨h1, h2⟩ | ⟨h1, h2⟩
            · subst h1 h2 hq
              go_wp2_with fail
              go_ret
              exact ⟨by simp, X7.out⟩
            · have h3 : ((q2 : Int) == 0) = false := by simpa using h1
              have h4 : ((q2 : Int) != 0) = true := by simpa using h1
              subst h2 hq
              clear h1
              go_wp2_with fail
              go_ret
              exact ⟨by simp, X7.out⟩
          · obtain ⟨h1, h2⟩ := HCM.out.1 hq
            have h3 : ((q : Int) != 0) = true := by simpa using hq
            subst h1 h2
            clear hq
            go_wp2_with fail
            go_ret
            exact ⟨by simp, X7.out⟩
      | some ad =>
        obtain ⟨l, hlt, hlc, hlq⟩ : ∃ l : List Tq, l.map (·.t) = ts ∧ (∀ W, Below w5.heap.size w5 W → ∀ j u, (tcs l)[j]? = some u → W.cell? (ad.add j) = some u) ∧ ∀ q ∈ l, q.t.name.size ≤ 9223372036854775807 ∧ Lf w5 q.A q.k q.c q.t.fields := by
          by_cases hn0 : j = 0
          · refine ⟨[], ?_, fun W hW j u hu => by simp [tcs] at hu, fun q hq => by cases hq⟩
            have := HL.out
            rw [hn0] at this
            rw [List.eq_nil_of_length_eq_zero this]
            rfl
          · obtain ⟨b, o, _, _, _, _, e, _, _, hbl, _⟩ := H.out.at 0 (by omega)
            injection e with e
            subst e
            obtain ⟨l, h1, h2, h3⟩ := (H.out.below X5.out (Nat.le_refl _)).tqs
            exact ⟨l, h1, fun W hW j u hu => by rw [addr_add, hW.cell (p := ⟨b, o + j, none⟩) (by simp only; omega)]; exact h2 j u hu, h3⟩
        have HLC := Lib.hid hlc
        have HLL := Lib.hid (show l.length = j by rw [← HL.out, ← hlt, List.length_map])
        have HMT := Lib.hid (show (l ++ [(⟨⟨tn, tv, false, fs⟩, FA, fk, fc⟩ : Tq)]).map (fun q : Tq => q.t) = ts ++ [⟨tn, tv, false, fs⟩] by rw [List.map_append, hlt]; rfl)
        have HLQ := Lib.hid (show ∀ q ∈ l ++ [(⟨⟨tn, tv, false, fs⟩, FA, fk, fc⟩ : Tq)], q.t.name.size ≤ 9223372036854775807 ∧ Lf w5 q.A q.k q.c q.t.fields from fun q hq => by
          rcases List.mem_append.1 hq with h1 | h1
          · exact hlq q h1
          · obtain rfl := List.mem_singleton.1 h1
            exact ⟨hnm, HF.out.below X5.out (Nat.le_refl _)⟩)
        clear hlt hlc hlq
        obtain ⟨Wc, hWc⟩ : ∃ Wc, Wc = (w5.alloc (Obj.cells #[] 32)).drew := ⟨_, rfl⟩
        have Gc := Lib.hid (show Wc.heap[w5.heap.size]? = some (.cells #[] 32 (0, 0)) by rw [hWc]; exact heap_alloc_new w5 _)
        have Bc := Lib.hid (show Below w5.heap.size w5 Wc by rw [hWc]; exact ((Below.refl w5.heap.size w5).alloc (Nat.le_refl _) _).drew)
        have HWc := Lib.hid hWc
        obtain ⟨Wb, hWb⟩ : ∃ Wb, Wb = ((w5.alloc (Obj.cells #[] 32)).alloc (Obj.cells #[.string tn, .bool tv, .bool false, .slice FA fk fc] 32)).drew := ⟨_, rfl⟩
        have Gb := Lib.hid (show Blk Wb w5.heap.size 32 #[] by rw [hWb]; exact (Blk.new w5 _ _).alloc _)
        have Sb := Lib.hid (show Blk Wb (w5.heap.size + 1) 32 #[.string tn, .bool tv, .bool false, .slice FA fk fc] by rw [hWb]; exact blk_new (w := w5.alloc (Obj.cells #[] 32)) (by simp) _ _)
        have Bb := Lib.hid (show Below w5.heap.size w5 Wb by rw [hWb]; exact (((Below.refl w5.heap.size w5).alloc (Nat.le_refl _) _).alloc (by simp) _).drew)
        have Zb := Lib.hid (show Wb.heap.size = w5.heap.size + 2 by rw [hWb]; simp)
        have HWb := Lib.hid hWb
        obtain ⟨Wa, hWa⟩ : ∃ Wa, Wa = ((w5.alloc (Obj.cells #[.string tn, .bool tv, .bool false, .slice FA fk fc] 32)).alloc (Obj.cells #[] 32)).drew := ⟨_, rfl⟩
        have Ga := Lib.hid (show Blk Wa (w5.heap.size + 1) 32 #[] by rw [hWa]; exact blk_new (w := w5.alloc (Obj.cells #[.string tn, .bool tv, .bool false, .slice FA fk fc] 32)) (by simp) _ _)
        have Sa := Lib.hid (show Blk Wa w5.heap.size 32 #[.string tn, .bool tv, .bool false, .slice FA fk fc] by rw [hWa]; exact (Blk.new w5 _ _).alloc _)
        have Ba := Lib.hid (show Below w5.heap.size w5 Wa by rw [hWa]; exact (((Below.refl w5.heap.size w5).alloc (Nat.le_refl _) _).alloc (by simp) _).drew)
        have Za := Lib.hid (show Wa.heap.size = w5.heap.size + 2 by rw [hWa]; simp)
        have HWa := Lib.hid hWa
        clear hWc hWb hWa
        go_region_held3 (fun w' => w'.cell? ⟨w.heap.size, 0, none⟩ = some (.string tn) ∧ w'.cell? ⟨w.heap.size, 1, none⟩ = some (.bool tv) ∧ w'.cell? ⟨w.heap.size, 2, none⟩ = some (.bool false) ∧ w'.cell? ⟨w.heap.size, 3, none⟩ = some (.slice FA fk fc)) (first | (with_reducible exact four B5.out X7.out hlt5) | (with_reducible exact four B5.out X6.out hlt5) | (with_reducible exact four B5.out X4.out hlt5) | go_keep | exact four B5.out (X4.out.alloc X4.out.size _) hlt5)
          (first
            | (rw [← HWc.out]; refine step_all (w := w5) (by rfl) (.tmp 59) (.tmp 60) (by rfl) w5.heap.size ad j cap l (by rfl) Gc.out (by rfl) Bc.out (HLC.out _ Bc.out) (Nat.le_refl _) HLL.out (by omega) ?_; intro v4 w4 h1 h2 h3; have O4 := Lib.hid h1; have X4 := Lib.hid h3; clear h1 h2 h3)
            | (rw [← HWb.out]; refine step_all (w := w5) (by rfl) (.tmp 59) (.tmp 60) (by rfl) w5.heap.size ad j cap l (by rfl) Gb.out (by rfl) Bb.out (HLC.out _ Bb.out) (Nat.le_refl _) HLL.out (by omega) ?_; intro v4 w4 h1 h2 h3; have O4 := Lib.hid h1; have X4 := Lib.hid h3; have S4 := Lib.hid ((h2.block (w5.heap.size + 1) (by rw [Zb.out]; omega) (by simp)).trans Sb.out); clear h1 h2 h3)
            | (rw [← HWa.out]; refine step_all (w := w5) (by rfl) (.tmp 59) (.tmp 60) (by rfl) (w5.heap.size + 1) ad j cap l (by rfl) Ga.out (by rfl) Ba.out (HLC.out _ Ba.out) (by omega) HLL.out (by omega) ?_; intro v4 w4 h1 h2 h3; have O4 := Lib.hid h1; have X4 := Lib.hid h3; have S4 := Lib.hid ((h2.block w5.heap.size (by rw [Za.out]; omega) (by simp)).trans Sa.out); clear h1 h2 h3)
            | (refine step_one (w := w5) (W := w4) (by rfl) (.tmp 61) (.tmp 63) (by rfl) v4 l ⟨⟨tn, tv, false, fs⟩, FA, fk, fc⟩ _ (by rfl) O4.out (by rfl) S4.out X4.out (by rw [HLL.out]; omega) ?_; intro v6 w6 h1 h2; obtain ⟨A6, k6, c6, rfl, lt6⟩ := h1.form (fun q hq => ⟨(HLQ.out q hq).1, (HLQ.out q hq).2.below h2 (Nat.le_refl _)⟩); rw [HMT.out] at lt6; have LT6 := Lib.hid lt6; have X6 := Lib.hid h2; clear h1 h2 lt6)
            | (refine step_one (w := w5) (W := w4.alloc (Obj.cells #[.string tn, .bool tv, .bool false, .slice FA fk fc] 32)) (by rfl) (.tmp 61) (.tmp 63) (by rfl) v4 l ⟨⟨tn, tv, false, fs⟩, FA, fk, fc⟩ w4.heap.size (by rfl) (O4.out.alloc _) (by rfl) (heap_alloc_new w4 _) (X4.out.alloc X4.out.size _) (by rw [HLL.out]; omega) ?_; intro v6 w6 h1 h2; obtain ⟨A6, k6, c6, rfl, lt6⟩ := h1.form (fun q hq => ⟨(HLQ.out q hq).1, (HLQ.out q hq).2.below h2 (Nat.le_refl _)⟩); rw [HMT.out] at lt6; have LT6 := Lib.hid lt6; have X6 := Lib.hid h2; clear h1 h2 lt6)
            | (go_at_call 12; (with_reducible refine (check_any _ _ _ _ LT6.out).mono ?_); rintro e w7 ⟨rfl, h7⟩; rw [HQ2.out.1, HQ2.out.2]; have X7 := Lib.hid (X6.out.trans (h7.mono X6.out.size)); clear h7))
        all_goals
          replace X7 := Lib.hid (X5.out.trans (X7.out.mono hs5))
          by_cases hq : q = 0
          · rcases HCM.out.2 hq with ⟨h1, h2⟩ | ⟨h1, h2⟩
            · subst h1 h2 hq
              go_wp2_with fail
              go_ret
              exact ⟨by simp, X7.out⟩
            · have h3 : ((q2 : Int) == 0) = false := by simpa using h1
              have h4 : ((q2 : Int) != 0) = true := by simpa using h1
              subst h2 hq
              clear h1
              go_wp2_with fail
              go_ret
              exact ⟨by simp, X7.out⟩
          · obtain ⟨h1, h2⟩ := HCM.out.1 hq
            have h3 : ((q : Int) != 0) = true := by simpa using hq
            subst h1 h2
            clear hq
            go_wp2_with fail
            go_ret
            exact ⟨by simp, X7.out⟩
end Go.Proofs.Ytnkjlocjfljjlaa
