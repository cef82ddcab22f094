/- The contracts of tree's rotate and leftmost over a tree's links. Conditions: the table of widths lies in its block; the arena's blocks are known; its bytes are a tree's links. -/
import Derived.Test.YtiacclmapicmdaaDoorTrMove
namespace Go.Proofs.YtiacclmapicmdaaDoor
open Go.RowKit

section
variable {c : Cx} {w w' : World} {s : Tr} {I : Nat → Bool}
theorem Rp.sd2 {u : List Fr} {t : T} {x p : Nat} (h : Rp s u t x p) (ht : t.isE = false) : Sd s x := by
  have hp := (h.kid ht).2.2.1
  unfold Sd
  rw [hp]
  cases u with
  | nil => exact .inl h.top.1
  | cons f u =>
    right
    obtain ⟨h1, h2, h3, h4, h5⟩ := h.fr
    have hsd := h.sd ht (by simp)
    rw [hsd]
    show _ = f.d
    subst h1
    cases hd : f.d with
    | true => rw [hd] at h2; simp [h2]
    | false =>
      rw [hd] at h3
      have hne : s.ch f.k true ≠ x := by
        rw [show s.ch f.k true = f.o.root from h3]
        intro e
        rcases root_mem f.o with hm | hm
        · rcases at_root h.at_ with ⟨e2, _⟩ | ⟨hm2, _⟩
          · rw [e2] at ht; cases ht
          · exact h.ap x hm2 (by simp only [fns, List.mem_cons, List.mem_append]; exact .inr (.inl (e ▸ hm)))
        · exact (h.kid ht).2.2.2 (e.symm.trans hm)
      simp [hne]
theorem Rp.turn_ok {u : List Fr} {t : T} {x p : Nat} {d : Bool} (h : Rp s u t x p) (ht : t.isE = false) :
    (s.place x (s.ch x (!d))).ch (s.ch x (!d)) d = s.ch (s.ch x (!d)) d := by
  unfold Tr.place
  rw [Tr.ch_join, if_neg]
  rintro ⟨h1, h2, _⟩
  obtain ⟨k1, _, k3, _⟩ := h.kid ht
  rw [k3] at h1 h2
  rcases up_par h.up with ⟨_, e⟩ | ⟨hm, _⟩
  · exact h2 e
  · rw [k1] at h1
    rcases root_mem (t.on (!d)) with hm2 | hm2
    · exact h.ap p (h1 ▸ on_mem hm2) hm
    · rw [hm2] at h1; exact h2 h1.symm
set_option maxRecDepth 100000 in
set_option maxHeartbeats 4000000 in
theorem Td.rotate (t : Td c w s I) {x : Nat} {d : Bool} (hx : c.N x) (hs : Sd s x) (hy : (s.place x (s.ch x (!d))).ch (s.ch x (!d)) d = s.ch (s.ch x (!d)) d) :
    Calls Tryd.prog 59 #[lv c.p, .int .i64 (c.rt : Nat), .int .i64 (c.ad x : Nat), .bool d] w fun e w' => (∃ u, e = .returned u) ∧ Td c w' (s.turn x d) I ∧ Fg c.g w w' := by
  have hyN := t.chN (.inr hx) (!d)
  have hzN := t.chN hyN d
  unfold Tr.turn
  rw [← hy] at hzN ⊢
  obtain ⟨w1, hw1⟩ : ∃ w1, w1 = w.alloc (.cells #[.pointer (some ⟨c.p, 0, none⟩)] 69) := ⟨_, rfl⟩
  obtain ⟨b, hbe⟩ : ∃ b, b = w.heap.size := ⟨_, rfl⟩
  have UC : Hid (Tb c w w1 b s I) := Lib.hid (by rw [hw1, hbe]; exact Tb.new t)
  have HW := Lib.hid hw1
  have HBE := Lib.hid hbe
  have HX := Lib.hid hx
  have HS := Lib.hid hs
  have HY := Lib.hid hyN
  have HZ := Lib.hid hzN
  clear hw1 hbe hx hs hy hyN hzN t
  go_enter Tryd.func59, Tryd.ntmps59
  go_wp2_with fail
  rw [← HBE.out, ← HW.out]
  have C1 := Lib.hid UC.out.cell
  have c1 := C1.out
  go_wp2_with (first
    | (go_at_call 53; (with_reducible refine (UC.out.td.child (.inr HX.out) (!d)).mono ?_); rintro e wc ⟨rfl, hbc⟩; have UC := Lib.hid (UC.out.below hbc); have C1 := Lib.hid UC.out.cell; (try clear c1); have c1 := C1.out; clear hbc)
    | (go_at_call 58; (with_reducible refine (UC.out.td.replace HX.out HY.out HS.out).mono ?_); rintro e wc ⟨⟨uv, rfl⟩, hdc, hfc⟩; have UC := Lib.hid (UC.out.fg hdc hfc); have C1 := Lib.hid UC.out.cell; (try clear c1); have c1 := C1.out; clear hdc hfc))
  have UC := Lib.hid UC.out.drew
  go_region_held3 (fun w' => w'.cell? ⟨b, 0, none⟩ = some (.pointer (some ⟨c.p, 0, none⟩))) (first | go_keep | with_reducible exact C1.out) (first
      | (go_at_call 53; (with_reducible refine (UC.out.td.child HY.out d).mono ?_); rintro e wc ⟨rfl, hbc⟩; have UC := Lib.hid (UC.out.below hbc); have C1 := Lib.hid UC.out.cell; replace hbc := Lib.hid hbc)
      | (go_at_call 45; (with_reducible refine (UC.out.td.hang (.inr HX.out) HZ.out (!d)).mono ?_); rintro e wc ⟨⟨uv, rfl⟩, hdc, hfc⟩; have UC := Lib.hid (UC.out.fg hdc hfc); have C1 := Lib.hid UC.out.cell; replace hdc := Lib.hid hdc; replace hfc := Lib.hid hfc))
  all_goals
    (try clear c1)
    have c1 := C1.out
    go_wp2_with (go_at_call 45; (with_reducible refine (UC.out.td.hang HY.out (.inr HX.out) d).mono ?_); rintro e wc ⟨⟨uv, rfl⟩, hdc, hfc⟩; have UC := Lib.hid (UC.out.fg hdc hfc); have C1 := Lib.hid UC.out.cell; (try clear c1); have c1 := C1.out; clear hdc hfc)
    go_end0
    exact ⟨⟨_, rfl⟩, UC.out.td, UC.out.fr⟩
theorem Td.len (t : Td c w s I) : Calls Tryd.prog 57 #[.pointer (some ⟨c.p, 0, none⟩)] w fun e w' => e = .returned (.int .i64 (c.n : Nat)) ∧ w = w' := by
  obtain ⟨f, t⟩ := t
  exact len_any _ _ _ _ t.aw.ar.mem
theorem fst_n {cc : Bool} {l r : T} {k : Nat} : fst (.n cc l k r) = if l.isE then k else fst l := by
  unfold fst
  cases hl : l.isE with
  | true => simp only [low, hl, if_true]; rfl
  | false =>
    simp only [low, hl, Bool.false_eq_true, if_false]
    obtain ⟨_, _, _, _, _, h3⟩ := low_at (t := l) [] hl
    rw [h3]
set_option maxRecDepth 100000 in
set_option maxHeartbeats 4000000 in
theorem Td.leftmost (t : Td c w s I) {T0 : T} {x p : Nat} (h : At s T0 x p) (hxN : x = 0 ∨ c.N x) (hlen : T0.ns.length < c.n) :
    Calls Tryd.prog 51 #[lv c.p, .int .i64 (c.ad x : Nat)] w fun e w' => e = .returned (.int .i64 (c.ad (fst T0) : Nat)) ∧ Below w.heap.size w w' := by
  have hn := t.pl.big
  obtain ⟨w1, hw1⟩ : ∃ w1, w1 = w.alloc (.cells #[.pointer (some ⟨c.p, 0, none⟩)] 69) := ⟨_, rfl⟩
  obtain ⟨b, hbe⟩ : ∃ b, b = w.heap.size := ⟨_, rfl⟩
  have UC : Hid (Tb c w w1 b s I) := Lib.hid (by rw [hw1, hbe]; exact Tb.new t)
  have FR : Hid (Below w.heap.size w w1) := Lib.hid (by rw [hw1]; exact below_one w _)
  have HW := Lib.hid hw1
  have HBE := Lib.hid hbe
  clear hw1 hbe
  have HA : Hid (At s T0 x p) := Lib.hid h
  have HXN := Lib.hid hxN
  clear t h hxN
  go_enter Tryd.func51, Tryd.ntmps51
  go_wp2_with fail
  rw [← HBE.out, ← HW.out]
  have C1 := Lib.hid UC.out.cell
  have c1 := C1.out
  go_wp2_with (go_at_call 57; (with_reducible refine UC.out.td.len.mono ?_); rintro e wc ⟨rfl, rfl⟩)
  go_loopg [1, 9] T0.ns.length (fun gk v1 v9 wr => ∃ (i : Nat) (T1 : T) (x1 p1 : Nat), v1 = .int .i64 (c.ad x1 : Nat) ∧ v9 = .int .i64 (i : Nat) ∧ gk = T1.ns.length ∧ i + T1.ns.length ≤ T0.ns.length ∧ Hid (At s T1 x1 p1) ∧ Hid (fst T1 = fst T0) ∧ Hid (x1 = 0 ∨ c.N x1) ∧ Hid (Tb c w wr b s I) ∧ Hid (Below w.heap.size w wr))
  case atStart => exact ⟨0, T0, x, p, rfl, rfl, rfl, by omega, HA, Lib.hid rfl, HXN, UC, FR⟩
  case round =>
    obtain ⟨i, T1, x1, p1, rfl, rfl, hgk, hi, hA, hF, hN, hU, hB⟩ := hrel
    have hz := hU.out.td.zi (hU.out.td.chN hN.out false)
    have UC := hU
    have FR := hB
    have C1 := Lib.hid UC.out.cell
    clear c1
    have c1 := C1.out
    have hlt : (i : Int) < c.n := by omega
    by_cases hl : s.ch x1 false = 0
    · have h0 : ((c.ad (s.ch x1 false) : Nat) : Int) = 0 := hz.2 hl
      have hfs : Hid (fst T1 = x1) := Lib.hid (by
        cases T1 with
        | e => exact (show x1 = 0 from hA.out).symm
        | n cc l k r =>
          obtain ⟨e1, h2, h3, h4, h5, h6⟩ := hA.out
          subst e1
          rw [fst_n]
          rw [hl] at h5
          have := isE_root h5
          rw [this]
          rfl)
      clear hz hl
      go_wp2_with (go_at_call 53; (with_reducible refine (UC.out.td.child hN.out false).mono ?_); rintro e wc ⟨rfl, hbc⟩; have FR := Lib.hid (FR.out.trans (hbc.mono FR.out.size)); have UC := Lib.hid (UC.out.below hbc); have C1 := Lib.hid UC.out.cell; (try clear c1); have c1 := C1.out; clear hbc)
      go_ret
      rw [← hF.out, hfs.out]
      exact ⟨rfl, FR.out⟩
    · have h0 : ¬ ((c.ad (s.ch x1 false) : Nat) : Int) = 0 := fun e => hl (hz.1 e)
      have hnx : Hid (∃ T2 p2, At s T2 (s.ch x1 false) p2 ∧ fst T2 = fst T0 ∧ T2.ns.length < T1.ns.length) := Lib.hid (by
        cases T1 with
        | e => exact absurd (by rw [show x1 = 0 from hA.out]; exact hU.out.td.zn.ch false) hl
        | n cc l k r =>
          obtain ⟨e1, h2, h3, h4, h5, h6⟩ := hA.out
          subst e1
          refine ⟨l, x1, h5, ?_, by simp only [T.ns, List.length_append, List.length_cons]; omega⟩
          rw [← hF.out, fst_n, isE_root h5]
          simp [hl])
      have hN2 := Lib.hid (hU.out.td.chN hN.out false)
      clear hz hl
      go_wp2_with (go_at_call 53; (with_reducible refine (UC.out.td.child hN.out false).mono ?_); rintro e wc ⟨rfl, hbc⟩; have FR := Lib.hid (FR.out.trans (hbc.mono FR.out.size)); have UC := Lib.hid (UC.out.below hbc); have C1 := Lib.hid UC.out.cell; (try clear c1); have c1 := C1.out; clear hbc)
      obtain ⟨T2, p2, hA2, hF2, hlen2⟩ := hnx.out
      go_roundg T2.ns.length
      case measure => omega
      case rel => exact ⟨i + 1, T2, _, p2, rfl, by go_num, rfl, by omega, Lib.hid hA2, Lib.hid hF2, hN2, UC, FR⟩
end
end Go.Proofs.YtiacclmapicmdaaDoor
