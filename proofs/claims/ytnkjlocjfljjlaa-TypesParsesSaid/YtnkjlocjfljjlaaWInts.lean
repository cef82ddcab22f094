/- Rows of numbers; the contracts of Ints, wire's and the document's. Condition: the slice can be read. -/
import Derived.Test.YtnkjlocjfljjlaaWText
import Derived.Deep.QuietTactic
import Derived.BigQuiet
namespace Go.Proofs.Ytnkjlocjfljjlaa
open Go.RowKit

def Fit (l : List Int) : Prop := ∀ x ∈ l, -9223372036854775808 ≤ x ∧ x ≤ 9223372036854775807
/-- A slice of k numbers, l, that can be read. -/
structure Li (w : World) (A : Option Addr) (k cap : Nat) (l : List Int) : Prop where
  cells : ∀ (i : Nat) (x : Int), l[i]? = some x → ∃ b o, A = some ⟨b, o, none⟩ ∧ b < w.heap.size ∧ w.cell? ⟨b, o + i, none⟩ = some (.int .i64 x)
  fit : Fit l
  len : l.length = k
  le : k ≤ cap
  max : cap ≤ 9223372036854775807

section
variable {w w' : World} {A : Option Addr} {k cap B : Nat} {l : List Int}
theorem Li.below (h : Li w A k cap l) (hb : Below B w w') (hB : w.heap.size ≤ B) : Li w' A k cap l :=
  ⟨fun i y hi => by
    obtain ⟨b, o, e, hl, hc⟩ := h.cells i y hi
    exact ⟨b, o, e, Nat.lt_of_lt_of_le hl hb.size, (hb.cell (p := ⟨b, o + i, none⟩) (by simp only; omega)).trans hc⟩, h.fit, h.len, h.le, h.max⟩
theorem Li.intAt (h : Li w A k cap l) (i : Nat) (hi : i < k) :
    ∃ (b o : Nat) (x : Int), A = some ⟨b, o, none⟩ ∧ Hid (l[i]? = some x) ∧ -9223372036854775808 ≤ x ∧ x ≤ 9223372036854775807 ∧ b < w.heap.size ∧ w.cell? ⟨b, o + i, none⟩ = some (.int .i64 x) := by
  have hl := h.len
  obtain ⟨b, o, e, hb, hc⟩ := h.cells i (l[i]'(by omega)) (List.getElem?_eq_getElem _)
  have hf := h.fit _ (List.getElem_mem (show i < l.length by omega))
  exact ⟨b, o, _, e, List.getElem?_eq_getElem _, hf.1, hf.2, hb, hc⟩
theorem Li.at {b o : Nat} (h : Li w (some ⟨b, o, none⟩) k cap l) (i : Nat) (hi : i < k) :
    ∃ x : Int, Hid (l[i]? = some x) ∧ -9223372036854775808 ≤ x ∧ x ≤ 9223372036854775807 ∧ w.cell? ⟨b, o + i, none⟩ = some (.int .i64 x) := by
  obtain ⟨b', o', x, e, h1, h2, h3, _, h4⟩ := h.intAt i hi
  injection e with e
  injection e with e1 e2
  subst e1
  subst e2
  exact ⟨x, h1, h2, h3, h4⟩
end

def ic (l : List Int) : List Value := l.map fun x => Value.int .i64 x
theorem ic_app (xs ys : List Int) : ic (xs ++ ys) = ic xs ++ ic ys := by simp [ic]
theorem ic_len (xs : List Int) : (ic xs).length = xs.length := by simp [ic]
/-- A row of numbers, l, that the call made from block B on. -/
def Oi (w : World) (B : Nat) (v : Value) (l : List Int) : Prop := w.ownsRow B 3 1 v l.length (ic l)
section
variable {w w' : World} {B : Nat} {v : Value} {l : List Int}
theorem Oi.form (h : Oi w B v l) (hB : Fit l) : ∃ A k cap, v = .slice A k cap ∧ Li w A k cap l := by
  rcases h.2 with ⟨h1, h2⟩ | ⟨g, cap, cur, h1, hb, hg, hle, hmax, hsz, htk⟩
  · have : l = [] := List.eq_nil_of_length_eq_zero h2
    subst this
    exact ⟨none, 0, 0, h1, fun i y hi => by simp at hi, hB, rfl, Nat.le_refl _, by omega⟩
  · refine ⟨some ⟨g, 0, none⟩, l.length, cap, h1, ⟨fun i y hi => ?_, hB, rfl, hle, by simpa [maxLen] using hmax⟩⟩
    refine ⟨g, 0, rfl, (Array.getElem?_eq_some_iff.1 hg).1, ?_⟩
    have hc := h.cells (g := g) (by rw [h1]; rfl) i (.int .i64 y) (by simp [ic, hi])
    rw [addr_add] at hc
    exact hc
theorem Oi.nil (w : World) (B : Nat) : Oi w B (.slice none 0 0) [] := World.ownsRow_nil _ _ _ _
theorem Oi.alloc (h : Oi w B v l) (o : Obj) : Oi (w.alloc o) B v l := World.ownsRow.alloc h o
theorem Oi.block (h : Oi w B v l) {k : Nat} (hk : v.ownBlock = some k) : B ≤ k := (World.ownsRow.lt h k hk).1
theorem Oi.keep {B' : Nat} (h : Oi w B v l) (hb : Below B' w w') (hB : w.heap.size ≤ B') : Oi w' B v l := by
  refine ⟨h.1, ?_⟩
  rcases h.2 with h1 | ⟨g, cap, cur, h1, h2, h3, rest⟩
  · exact .inl h1
  · exact .inr ⟨g, cap, cur, h1, h2, (hb.block g (Nat.lt_of_lt_of_le (Array.getElem?_eq_some_iff.1 h3).1 hB)).trans h3, rest⟩
end
theorem info64 : (Try.prog.info? 3).map (fun i => (i.zero, i.size, i.bytes)) = some (some (.int .i64 0), 1, 8) := by kernel_rfl
theorem ic_one (xs : List Int) : ∀ u ∈ ic xs, u.oneCell' = true := by
  intro u hu
  simp only [ic, List.mem_map] at hu
  obtain ⟨_, _, rfl⟩ := hu
  rfl
/-- l = append(l, y). -/
theorem wpList_iapp {w : World} {ops : Array Oper} {rest : List Oper} {o : Oper} {a : Act} {Q : Exit → Act → World → Prop} (hgd : o.guard = none) (s x : Operand)
    (ho : o.op = .call { callee := .builtin .append, args := #[s, x], argTypes := #[33, 33] })
    (base : Nat) (v : Value) (l : List Int) (hs : a.eval s = v) (hown : Oi w base v l) (y : Int) (hx : a.eval x = .slice (some ⟨w.heap.size, 0, none⟩) 1 1)
    (hbig : l.length ≤ 100000) (hbase : base ≤ w.heap.size)
    (h : ∀ v' w', Oi w' base v' (l ++ [y]) → Below base w w' → wpList Try.prog ops Q rest (a.put o.dst v') w') : wpList Try.prog ops Q (o :: rest) a (w.alloc (.cells #[.int .i64 y] 3)) := by
  obtain ⟨i0, hi, hz0, hz1, hz2⟩ := info_parts info64
  refine wpList_append_own _ hgd s x 33 ho base 3 i0 (.int .i64 0) 1 8 Try.underlying33 hi hz0 hz1 hz2 rfl (by decide) v l.length (ic l) hs (hown.alloc _) ⟨w.heap.size, 0, none⟩ 1 1 (ic [y]) hx rfl ?_ (ic_one _) (by unfold maxLen; omega) (by omega) (by simp; omega) ?_
  · intro j u hu
    match j, hu with
    | 0, hu =>
      simp [ic] at hu
      subst hu
      simp [Addr.add]
  · intro v' w' h1 h2 _
    refine h v' w' ?_ (((Below.refl base w).alloc hbase _).grown h2 (by simp; omega) fun k hk => hown.block hk)
    unfold Oi
    rw [ic_app, List.length_append]
    exact h1

/-! ### the list of numbers in the mind -/
theorem nats_snoc {l : List Int} {j : Nat} {X : Nat} (h : l[j]? = some (X : Int)) : flat (nats (l.take (j + 1))) = flat (nats (l.take j)) ++ num X := by
  rw [List.take_add_one, h]
  simp [nats, flat]
theorem okl_bad {l : List Int} {j : Nat} {x : Int} (h : l[j]? = some x) (hx : x < 0 ∨ 2147483647 < x) (hl : l.length ≤ 1000) : isE l = 1 ∧ isV l = [] := by
  have ho : okl l = false := by
    unfold okl
    rw [List.all_eq_false]
    exact ⟨x, List.mem_of_getElem? h, by simp; omega⟩
  have e : isE l = 1 := by unfold isE; rw [if_neg (by omega), if_neg (by rw [ho]; decide)]
  exact ⟨e, by unfold isV; rw [e]; rfl⟩
theorem okl_all {l : List Int} (h : ∀ (t : Nat) (x : Int), t < l.length → l[t]? = some x → 0 ≤ x ∧ x ≤ 2147483647) (hl : l.length ≤ 1000) : isE l = 0 ∧ isV l = num l.length ++ flat (nats l) := by
  have ho : okl l = true := by
    unfold okl
    rw [List.all_eq_true]
    intro x hx
    obtain ⟨i, hi⟩ := List.mem_iff_getElem?.1 hx
    have hlt : i < l.length := by
      rcases Nat.lt_or_ge i l.length with hlt | hge
      · exact hlt
      · rw [List.getElem?_eq_none hge] at hi; cases hi
    exact decide_eq_true (h i x hlt hi)
  have e := isE_zero.2 ⟨hl, ho⟩
  exact ⟨e, by unfold isV; rw [if_pos e]⟩
theorem isE_big {l : List Int} (h : 1000 < l.length) : isE l = 11 ∧ isV l = [] := by
  have e : isE l = 11 := by unfold isE; rw [if_pos h]
  exact ⟨e, by unfold isV; rw [e]; rfl⟩
theorem nats_take_len (l : List Int) (j : Nat) (h : ∀ (t : Nat) (x : Int), t < j → l[t]? = some x → 0 ≤ x ∧ x ≤ 2147483647) (hj : j ≤ 1000) : (flat (nats (l.take j))).length ≤ 5000 := by
  have := flat_len (nats (l.take j)) (by
    intro y hy
    simp only [nats, List.mem_map] at hy
    obtain ⟨x, hx, rfl⟩ := hy
    obtain ⟨i, hi⟩ := List.mem_iff_getElem?.1 hx
    have hij : i < j := by
      rcases Nat.lt_or_ge i j with hlt | hge
      · exact hlt
      · rw [List.getElem?_eq_none (by simp; omega)] at hi; cases hi
    rw [List.getElem?_take, if_pos hij] at hi
    have := h i x hij hi
    omega)
  rw [nats_len] at this
  have : (l.take j).length ≤ j := List.length_take_le _ _
  omega

section
variable {w : World}
set_option maxRecDepth 100000 in
theorem ints_any (A : Option Addr) (k cap : Nat) (l : List Int) (h : Li w A k cap l) :
    Calls Try.prog 32 #[.slice A k cap] w fun e w' => ∃ v', e = .returned (.tuple #[v', .int .i64 (isE l : Nat)]) ∧ Ob w' w.heap.size v' (isV l) ∧ Below w.heap.size w w' := by
  have hle := h.le
  have hmx := h.max
  have HL := Lib.hid h.len
  have HR := Lib.hid h
  clear h
  by_cases hk : 1000 < k
  · rw [(isE_big (l := l) (by rw [HL.out]; exact hk)).1, (isE_big (l := l) (by rw [HL.out]; exact hk)).2]
    go_enter Try.func32, Try.ntmps32
    go_wp2_with fail
    go_ret2
    exact ⟨_, rfl, Ob.nil _ _, Below.refl _ _⟩
  · have hk2 : k ≤ 1000 := by omega
    have TN := Lib.hid (num_ten (show k < 18446744073709551616 by omega))
    go_enter Try.func32, Try.ntmps32
    go_wp2_with (go_at_call 30; refine (number_any k (by omega)).mono ?_; rintro e w1 ⟨v1, rfl, h1, h2⟩; have H1 := Lib.hid h1; have H2 := Lib.hid h2; clear h1 h2)
    go_loopw [4, 16] (fun u i wr => ∃ j : Nat, j ≤ k ∧ i = .int .i64 j ∧ Hid (∀ (t : Nat) (x : Int), t < j → l[t]? = some x → 0 ≤ x ∧ x ≤ 2147483647) ∧ Hid (Ob wr w.heap.size u (num k ++ flat (nats (l.take j)))) ∧ Hid (Below w.heap.size w wr)) (fun _ i _ => k - (intOf i).toNat)
    case atStart => exact ⟨0, Nat.zero_le _, rfl, fun t x ht => absurd ht (by omega), by show Ob _ _ _ _; simpa [nats, flat] using H1.out, H2.out⟩
    case round =>
      obtain ⟨j, hj, rfl, HJ, HO, HW⟩ := hrel
      by_cases hlt : j < k
      · obtain ⟨b, o, x, rfl, HX, hx1, hx2, hb, hcell⟩ := (HR.out.below HW.out (Nat.le_refl _)).intAt j hlt
        by_cases hneg : x < 0
        · obtain ⟨e1, e2⟩ := okl_bad HX.out (.inl hneg) (by rw [HL.out]; exact hk2)
          have HE := Lib.hid (And.intro e1 e2)
          clear e1 e2
          go_wp2_with fail
          go_ret2
          rw [HE.out.1, HE.out.2]
          exact ⟨_, rfl, Ob.nil _ _, HW.out⟩
        · obtain ⟨X, rfl⟩ : ∃ X : Nat, x = X := ⟨x.toNat, by omega⟩
          by_cases hbig : 2147483647 < X
          · obtain ⟨e1, e2⟩ := okl_bad HX.out (.inr (by omega)) (by rw [HL.out]; exact hk2)
            have HE := Lib.hid (And.intro e1 e2)
            clear e1 e2
            go_wp2_with fail
            go_ret2
            rw [HE.out.1, HE.out.2]
            exact ⟨_, rfl, Ob.nil _ _, HW.out⟩
          · have hb2 : X ≤ 2147483647 := by omega
            have FL := Lib.hid (nats_take_len l j HJ.out (by omega))
            have SN := Lib.hid (nats_snoc HX.out)
            have N1 := Lib.hid (show (num k ++ flat (nats (l.take j))).length ≤ 100000 by rw [List.length_append]; have := TN.out; have := FL.out; omega)
            go_wp2_with (go_at_call 48; refine (app_any w.heap.size _ _ X (by omega) N1.out HO.out HW.out.size).mono ?_; rintro e w2 ⟨v2, rfl, h1, h2⟩; have H3 := Lib.hid h1; have H4 := Lib.hid h2; clear h1 h2)
            go_roundw
            case rel =>
              refine ⟨j + 1, by omega, by go_num, ?_, ?_, HW.out.trans H4.out⟩
              · intro t x ht hx
                rcases Nat.lt_or_ge t j with h | h
                · exact HJ.out t x h hx
                · obtain rfl : t = j := by omega
                  rw [HX.out] at hx
                  injection hx with hx
                  omega
              · show Ob _ _ _ _
                rw [SN.out, ← List.append_assoc]
                exact H3.out
            case measure => simp [intOf]; omega
      · obtain rfl : j = k := by omega
        obtain ⟨e1, e2⟩ := okl_all (l := l) (fun t x ht => HJ.out t x (by rw [HL.out] at ht; exact ht)) (by rw [HL.out]; exact hk2)
        have HE := Lib.hid (And.intro e1 e2)
        have HTK := Lib.hid (List.take_of_length_le (Nat.le_of_eq HL.out))
        clear e1 e2
        go_wp2_with fail
        go_ret2
        rw [HE.out.1, HE.out.2, HL.out]
        refine ⟨_, rfl, ?_, HW.out⟩
        have := HO.out
        rw [HTK.out] at this
        exact this

set_option maxRecDepth 100000 in
theorem rints_any (A : Option Addr) (k cap : Nat) (l : List Int) (h : Li w A k cap l) :
    Calls Try.prog 36 #[.slice A k cap] w fun e w' => ∃ v', e = .returned (.tuple #[v', .int .i64 (isE l : Nat)]) ∧ Ob w' w.heap.size v' (isV l) ∧ Below w.heap.size w w' := by
  have hle := h.le
  have hmx := h.max
  have HL := Lib.hid h.len
  have HR := Lib.hid h
  clear h
  by_cases hk : 1000 < k
  · rw [(isE_big (l := l) (by rw [HL.out]; exact hk)).1, (isE_big (l := l) (by rw [HL.out]; exact hk)).2]
    go_enter Try.func36, Try.ntmps36
    go_wp2_with fail
    go_ret2
    exact ⟨_, rfl, Ob.nil _ _, Below.refl _ _⟩
  · have hk2 : k ≤ 1000 := by omega
    have TN := Lib.hid (num_ten (show k < 18446744073709551616 by omega))
    go_enter Try.func36, Try.ntmps36
    go_wp2_with (go_at_call 34; refine (rnumber_any 9 k _ (by omega) (by omega)).mono ?_; rintro e w1 ⟨v1, rfl, h1, h2⟩; have H1 := Lib.hid h1; have H2 := Lib.hid h2; clear h1 h2)
    go_loopw [4, 5] (fun u i wr => ∃ j : Nat, j ≤ k ∧ i = .int .i64 j ∧ Hid (∀ (t : Nat) (x : Int), t < j → l[t]? = some x → 0 ≤ x ∧ x ≤ 2147483647) ∧ Hid (Ob wr w.heap.size u (num k ++ flat (nats (l.take j)))) ∧ Hid (Below w.heap.size w wr)) (fun _ i _ => k - (intOf i).toNat)
    case atStart => exact ⟨0, Nat.zero_le _, rfl, fun t x ht => absurd ht (by omega), by show Ob _ _ _ _; simpa [nats, flat] using H1.out, H2.out⟩
    case round =>
      obtain ⟨j, hj, rfl, HJ, HO, HW⟩ := hrel
      by_cases hlt : j < k
      · obtain ⟨b, o, x, rfl, HX, hx1, hx2, hb, hcell⟩ := (HR.out.below HW.out (Nat.le_refl _)).intAt j hlt
        by_cases hneg : x < 0
        · obtain ⟨e1, e2⟩ := okl_bad HX.out (.inl hneg) (by rw [HL.out]; exact hk2)
          have HE := Lib.hid (And.intro e1 e2)
          clear e1 e2
          go_wp2_with fail
          go_ret2
          rw [HE.out.1, HE.out.2]
          exact ⟨_, rfl, Ob.nil _ _, HW.out⟩
        · obtain ⟨X, rfl⟩ : ∃ X : Nat, x = X := ⟨x.toNat, by omega⟩
          by_cases hbig : 2147483647 < X
          · obtain ⟨e1, e2⟩ := okl_bad HX.out (.inr (by omega)) (by rw [HL.out]; exact hk2)
            have HE := Lib.hid (And.intro e1 e2)
            clear e1 e2
            go_wp2_with fail
            go_ret2
            rw [HE.out.1, HE.out.2]
            exact ⟨_, rfl, Ob.nil _ _, HW.out⟩
          · have hb2 : X ≤ 2147483647 := by omega
            have FL := Lib.hid (nats_take_len l j HJ.out (by omega))
            have SN := Lib.hid (nats_snoc HX.out)
            have TX := Lib.hid (num_ten (show X < 18446744073709551616 by omega))
            have N1 := Lib.hid (show (num k ++ flat (nats (l.take j))).length + (num X).length ≤ 140737488400000 by rw [List.length_append]; have := TN.out; have := FL.out; have := TX.out; omega)
            go_wp2_with (first | (go_at_call 34; refine (rnumber_any 9 X _ (by omega) (by omega)).mono ?_; rintro e w2 ⟨v2, rfl, h1, h2⟩; obtain ⟨A2, k2, c2, rfl, h3⟩ := h1.form (num_byt _); have H3 := Lib.hid (src_rd h3); have H4 := Lib.hid (HW.out.trans (h2.mono HW.out.size)); have H5 := Lib.hid (HO.out.keep h2 (Nat.le_refl _)); clear h1 h2 h3) | (at_builtin; refine wpList_app rfl _ _ 40 rfl w.heap.size _ _ rfl H5.out _ (num X) rfl H3.out N1.out H4.out.size ?_; intro v6 w6 h6 h7; have H6 := Lib.hid h6; have H7 := Lib.hid (H4.out.trans h7); clear h6 h7) | go_in)
            go_roundw
            case rel =>
              refine ⟨j + 1, by omega, by go_num, ?_, ?_, H7.out⟩
              · intro t x ht hx
                rcases Nat.lt_or_ge t j with h | h
                · exact HJ.out t x h hx
                · obtain rfl : t = j := by omega
                  rw [HX.out] at hx
                  injection hx with hx
                  omega
              · show Ob _ _ _ _
                rw [SN.out, ← List.append_assoc]
                exact H6.out
            case measure => simp [intOf]; omega
      · obtain rfl : j = k := by omega
        obtain ⟨e1, e2⟩ := okl_all (l := l) (fun t x ht => HJ.out t x (by rw [HL.out] at ht; exact ht)) (by rw [HL.out]; exact hk2)
        have HE := Lib.hid (And.intro e1 e2)
        have HTK := Lib.hid (List.take_of_length_le (Nat.le_of_eq HL.out))
        clear e1 e2
        go_wp2_with fail
        go_ret2
        rw [HE.out.1, HE.out.2, HL.out]
        refine ⟨_, rfl, ?_, HW.out⟩
        have := HO.out
        rw [HTK.out] at this
        exact this
end
end Go.Proofs.Ytnkjlocjfljjlaa
