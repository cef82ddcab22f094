/- The contract of tree's settleBlack over a tree's links. Conditions: the table of widths lies in its block; the arena's blocks are known; its bytes are a tree's links. -/
import Derived.Test.YtiacclmapicmdaaDoorTrStepD
namespace Go.Proofs.YtiacclmapicmdaaDoor
open Go.RowKit

section
variable {c : Cx} {w w' : World} {s : Tr} {I : Nat → Bool}
theorem Td.childW (t : Td c w s I) {O : T} (r : Rw c s O) (d : Bool) :
    Calls Tryd.prog 53 #[lv c.p, .int .i64 (c.ad O.root : Nat), .bool d] w fun e w' => e = .returned (.int .i64 (c.ad (O.on d).root : Nat)) ∧ Below w.heap.size w w' := by
  have := t.child (.inr r.w) d
  rwa [r.ch d] at this
theorem Td.redW (t : Td c w s I) {O : T} {b : Bool} (r : Rw c s O) (d : Bool) (e : (O.on d).red = b) :
    Calls Tryd.prog 54 #[lv c.p, .int .i64 (c.ad (O.on d).root : Nat)] w fun e w' => e = .returned (.bool b) ∧ Below w.heap.size w w' := by
  subst e
  have := t.isRed (r.nN d)
  rwa [r.red d] at this
set_option maxRecDepth 100000 in
set_option maxHeartbeats 4000000 in
theorem Td.settleBlack (t : Td c w s I) {u0 : List Fr} {T0 : T} {x0 p0 : Nat} (r : Rd u0 T0 s s u0 T0 x0 p0) (hrb : (delFix u0 T0).red = false) (hN : ∀ j, j ∈ (plug u0 T0).ns → c.N j) (hpN : p0 = 0 ∨ c.N p0) (hlen : u0.length + 3 < c.n) :
    Calls Tryd.prog 36 #[lv c.p, .int .i64 (c.rt : Nat), .int .i64 (c.ad x0 : Nat), .int .i64 (c.ad p0 : Nat)] w fun e w' => (∃ u, e = .returned u) ∧ ∃ s', Td c w' s' I ∧ Rp s' [] (delFix u0 T0) s'.top 0 ∧ Out (plug u0 T0).ns s s' ∧ Fg c.g w w' := by
  have hn := t.pl.big
  obtain ⟨w1, hw1⟩ : ∃ w1, w1 = w.alloc (.cells #[.pointer (some ⟨c.p, 0, none⟩)] 69) := ⟨_, rfl⟩
  obtain ⟨b, hbe⟩ : ∃ b, b = w.heap.size := ⟨_, rfl⟩
  have UC : Hid (Tb c w w1 b s I) := Lib.hid (by rw [hw1, hbe]; exact Tb.new t)
  have HW := Lib.hid hw1
  have HBE := Lib.hid hbe
  clear hw1 hbe
  have RA := Lib.hid r
  have HN := Lib.hid hN
  have HRB := Lib.hid hrb
  have HPN := Lib.hid hpN
  clear t r hN hrb hpN
  go_enter Tryd.func36, Tryd.ntmps36
  go_wp2_with fail
  rw [← HBE.out, ← HW.out]
  have C1 := Lib.hid UC.out.cell
  have c1 := C1.out
  go_wp2_with (go_at_call 57; (with_reducible refine UC.out.td.len.mono ?_); rintro e wc ⟨rfl, rfl⟩)
  go_loopg [2, 3, 13] (u0.length + 2) (fun gk v2 v3 v13 wr => ∃ (i : Nat) (s1 : Tr) (x p : Nat), v2 = .int .i64 (c.ad x : Nat) ∧ v3 = .int .i64 (c.ad p : Nat) ∧ v13 = .int .i64 (i : Nat) ∧ i + gk ≤ u0.length + 2 ∧ Hid (p = 0 ∨ c.N p) ∧
    Hid ((∃ u T1, (1 ≤ gk ∧ T1.red = true ∨ gk = u.length + 2) ∧ Rd u0 T0 s s1 u T1 x p) ∨ (1 ≤ gk ∧ x = s1.top ∧ Rp s1 [] (delFix u0 T0) s1.top 0 ∧ Out (plug u0 T0).ns s s1)) ∧ Hid (Tb c w wr b s1 I))
  case atStart => exact ⟨0, s, x0, p0, rfl, rfl, rfl, by omega, HPN, Lib.hid (.inl ⟨u0, T0, .inr rfl, RA.out⟩), UC⟩
  case round =>
    obtain ⟨i, s1, x, p, rfl, rfl, rfl, hi, hPN, hcs, hU⟩ := hrel
    have UC := hU
    have C1 := Lib.hid UC.out.cell
    clear c1
    have c1 := C1.out
    have hgk1 : 1 ≤ gk := by
      rcases hcs.out with ⟨u, T1, h | h, _⟩ | ⟨h, _⟩ <;> omega
    have hlt : (i : Int) < c.n := by omega
    clear hgk1
    have HI := Lib.hid hi
    clear hi
    have hcase : (∃ b, (((c.ad x : Nat) : Int) == (c.ad s1.top : Nat)) = b ∧ (x = 0 ∨ c.N x) ∧ (b = true ∨ s1.red x = true) ∧ Rp (s1.paint x false) [] (delFix u0 T0) (s1.paint x false).top 0 ∧ Out (plug u0 T0).ns s (s1.paint x false)) ∨
        (∃ f u T1, gk = u.length + 1 + 2 ∧ Rd u0 T0 s s1 (f :: u) T1 x p ∧ T1.red = false) := by
      rcases hcs.out with ⟨u, T1, hg, hR⟩ | ⟨_, hx, hR, hO⟩
      · have hNx : x = 0 ∨ c.N x := by
          rw [hR.rp.root]
          exact (root_mem T1).symm.imp id fun hm => HN.out _ (hR.mem _ (mem_plug.2 (.inl hm)))
        cases u with
        | nil =>
          left
          have e := hR.rp.top.2
          exact ⟨true, by rw [e]; simp, hNx, .inl rfl, hR.stop (.inl rfl)⟩
        | cons f u =>
          cases ht : T1.red with
          | true =>
            left
            refine ⟨false, beq_eq_false_iff_ne.2 fun e => ?_, hNx, .inr (by rw [hR.rp.at_.col hU.out.td.zn]; exact ht), hR.stop (.inr ht)⟩
            exact hR.rp.not_top (by simp) ((hU.out.td.eqi hNx hU.out.td.topN).1 e)
          | false =>
            right
            refine ⟨f, u, T1, ?_, hR, ht⟩
            rcases hg with ⟨_, h⟩ | hg
            · rw [ht] at h; cases h
            · simp only [List.length_cons] at hg; omega
      · left
        subst hx
        exact ⟨true, by simp, hU.out.td.topN, .inl rfl, done_stop hR HRB.out (fun j hj => by rwa [delFix_ns] at hj) hO⟩
    clear hcs
    rcases hcase with ⟨b', q1, q2, q3, q4, q5⟩ | ⟨f, u, T1, hgk, hR, ht⟩
    · have Q2 := Lib.hid q2
      have Q4 := Lib.hid q4
      have Q5 := Lib.hid q5
      clear q2 q4 q5 HI
      cases b' with
      | true =>
        clear q3
        go_wp2_with (first
          | (go_at_call 34; (with_reducible refine (UC.out.td.root).mono ?_); rintro e wc ⟨rfl, hbc⟩; have UC := Lib.hid (UC.out.below hbc); have C1 := Lib.hid UC.out.cell; (try clear c1); have c1 := C1.out; clear hbc)
          | (go_at_call 46; (with_reducible refine (UC.out.td.paint0 Q2.out).mono ?_); rintro e wc ⟨⟨uv, rfl⟩, hdc, hfc⟩; have UC := Lib.hid (UC.out.fg hdc hfc); have C1 := Lib.hid UC.out.cell; (try clear c1); have c1 := C1.out; clear hdc hfc))
        go_end0
        exact ⟨⟨_, rfl⟩, _, UC.out.td, Q4.out, Q5.out, UC.out.fr⟩
      | false =>
        have Q3 := Lib.hid (q3.resolve_left (by simp))
        clear q3
        go_wp2_with (first
          | (go_at_call 34; (with_reducible refine (UC.out.td.root).mono ?_); rintro e wc ⟨rfl, hbc⟩; have UC := Lib.hid (UC.out.below hbc); have C1 := Lib.hid UC.out.cell; (try clear c1); have c1 := C1.out; clear hbc)
          | (go_at_call 54; (with_reducible refine (UC.out.td.redE Q2.out Q3.out).mono ?_); rintro e wc ⟨rfl, hbc⟩; have UC := Lib.hid (UC.out.below hbc); have C1 := Lib.hid UC.out.cell; (try clear c1); have c1 := C1.out; clear hbc)
          | (go_at_call 46; (with_reducible refine (UC.out.td.paint0 Q2.out).mono ?_); rintro e wc ⟨⟨uv, rfl⟩, hdc, hfc⟩; have UC := Lib.hid (UC.out.fg hdc hfc); have C1 := Lib.hid UC.out.cell; (try clear c1); have c1 := C1.out; clear hdc hfc))
        go_end0
        exact ⟨⟨_, rfl⟩, _, UC.out.td, Q4.out, Q5.out, UC.out.fr⟩
    · obtain rfl : p = f.k := hR.rp.fr.1
      have hNN : ∀ j, j ∈ (plug (f :: u) T1).ns → c.N j := fun j hj => HN.out j (hR.mem j hj)
      obtain ⟨hoe, hos⟩ := hR.sib ht
      have rf := hR.rp.rn hU.out.td.zn hNN
      have rw1 := hR.rp.rw_ hU.out.td.zn hNN hoe
      have ntop : (((c.ad x : Nat) : Int) == (c.ad s1.top : Nat)) = false := beq_eq_false_iff_ne.2 fun e =>
        hR.rp.not_top (by simp) ((hU.out.td.eqi rf.xN hU.out.td.topN).1 e)
      have hred : Hid (s1.red x = false) := Lib.hid (by rw [rf.rx]; exact ht)
      have hside : (((c.ad (s1.ch f.k true) : Nat) : Int) == (c.ad x : Nat)) = f.d := by
        cases hd : f.d with
        | true => rw [show s1.ch f.k true = x from hd ▸ rf.ch]; simp
        | false =>
          rw [show s1.ch f.k true = f.o.root from (by have := rf.cho; rwa [hd] at this)]
          refine beq_eq_false_iff_ne.2 fun e => ?_
          have := (hU.out.td.eqi rf.oN rf.xN).1 e
          rcases rf.ne with h | ⟨_, h⟩
          · exact h this.symm
          · rw [hoe] at h; cases h
      have XN := Lib.hid rf.xN
      have FK := Lib.hid rf.kN
      have WO := Lib.hid rf.cho
      have RO := Lib.hid rf.ro
      have RW1 := Lib.hid rw1
      have HR := Lib.hid hR
      have HT := Lib.hid ht
      have HNN := Lib.hid hNN
      have HGK := Lib.hid hgk
      have HOE := Lib.hid hoe
      have HOS := Lib.hid hos
      have ZN := Lib.hid hU.out.td.zn
      have NT := Lib.hid ntop
      have HS := Lib.hid hside
      clear hNN hoe hos rf rw1 hR ht hgk ntop hside
      cases hwr : f.o.red with
      | false =>
        have RO2 : Hid (s1.red f.o.root = false) := Lib.hid (by rw [RO.out]; exact hwr)
        have HRF : Hid (Rd u0 T0 s s1 (⟨f.d, f.c, f.k, f.o⟩ :: u) T1 x f.k) := HR
        have BLF := Lib.hid hwr
        have OEF := HOE
        have RWF := RW1
        have ZNF := ZN
        clear hwr
        have ntop := NT.out
        have hside := HS.out
        go_wp2_with (first
          | (go_at_call 34; (with_reducible refine (UC.out.td.root).mono ?_); rintro e wc ⟨rfl, hbc⟩; have UC := Lib.hid (UC.out.below hbc); have C1 := Lib.hid UC.out.cell; (try clear c1); have c1 := C1.out; clear hbc)
          | (go_at_call 54; (with_reducible refine (UC.out.td.redE XN.out hred.out).mono ?_); rintro e wc ⟨rfl, hbc⟩; have UC := Lib.hid (UC.out.below hbc); have C1 := Lib.hid UC.out.cell; (try clear c1); have c1 := C1.out; clear hbc)
          | (go_at_call 53; (with_reducible refine (UC.out.td.child (.inr FK.out) true).mono ?_); rintro e wc ⟨rfl, hbc⟩; have UC := Lib.hid (UC.out.below hbc); have C1 := Lib.hid UC.out.cell; (try clear c1); have c1 := C1.out; clear hbc)
          | (go_at_call 53; (with_reducible refine (UC.out.td.childE (.inr FK.out) (!f.d) WO.out).mono ?_); rintro e wc ⟨rfl, hbc⟩; have UC := Lib.hid (UC.out.below hbc); have C1 := Lib.hid UC.out.cell; (try clear c1); have c1 := C1.out; clear hbc)
          | (go_at_call 54; (with_reducible refine (UC.out.td.redE (.inr RW1.out.w) RO2.out).mono ?_); rintro e wc ⟨rfl, hbc⟩; have UC := Lib.hid (UC.out.below hbc); have C1 := Lib.hid UC.out.cell; (try clear c1); have c1 := C1.out; clear hbc))
        clear ntop hside
        cases hnr : (f.o.on f.d).red with
        | true =>
          cases hfr : (f.o.on (!f.d)).red with
          | true =>
            have NR := Lib.hid hnr
            have FRR := Lib.hid hfr
            clear hnr hfr
            have COL : Hid (s1.red f.k = f.c) := Lib.hid (by have := (HRF.out.rp).fr.2.2.2.1; exact this)
            have FCH : Hid (((s1.paint f.o.root f.c).paint f.k false).ch f.o.root (!f.d) = (f.o.on (!f.d)).root) := Lib.hid (by rw [Tr.ch_paint, Tr.ch_paint]; exact RWF.out.ch _)
            obtain ⟨uF, tF, pF, rpF, eF⟩ := far_rp (HRF.out.rp) OEF.out
            have RPF : Hid (Rp (((s1.paint f.o.root f.c).paint f.k false).paint (f.o.on (!f.d)).root false) uF tF f.k pF) := Lib.hid rpF
            have RPFE := Lib.hid eF
            have DN : Hid (Rp ((((s1.paint f.o.root f.c).paint f.k false).paint (f.o.on (!f.d)).root false).turn f.k f.d) [] (delFix u0 T0) ((((s1.paint f.o.root f.c).paint f.k false).paint (f.o.on (!f.d)).root false).turn f.k f.d).top 0 ∧ Out (plug u0 T0).ns s ((((s1.paint f.o.root f.c).paint f.k false).paint (f.o.on (!f.d)).root false).turn f.k f.d)) := Lib.hid (far_done (HRF.out.rp) HT.out OEF.out BLF.out FRR.out (HRF.out.fx) (HRF.out.out) (HRF.out.mem))
            clear rpF eF
            have UC := Lib.hid UC.out.drew
            refine wp_region_noPanic ?_
            refine wp_region_held_drew (S := (fun w' => w'.cell? ⟨b, 0, none⟩ = some (.pointer (some ⟨c.p, 0, none⟩)))) (by kernel_rfl) UC.out.cell (fun hHeld => ?_)
            refine wpAnyH_take (i := 0) (oi := { dst := some 54, op := Op.load 69 (Operand.tmp 4), type := 69, pos := "tree.go:291", after := #[], guard := none }) (v := .agg #[.pointer (some ⟨c.p, 0, none⟩)]) rfl (by kernel_rfl) (by kernel_rfl) (by kernel_rfl) (fun _ _ _ h => h) (Or.inl ⟨by kernel_rfl, ?_⟩) hHeld ?_
            · intro w hSw; (try dsimp only at hSw); go_simp; (try (with_reducible rfl))
            dsimp only [Act.put]
            refine wpAnyH_take (i := 1) (oi := { dst := some 55, op := Op.load 69 (Operand.tmp 4), type := 69, pos := "tree.go:291", after := #[], guard := none }) (v := .agg #[.pointer (some ⟨c.p, 0, none⟩)]) rfl (by kernel_rfl) (by kernel_rfl) (by kernel_rfl) (fun _ _ _ h => h) (Or.inl ⟨by kernel_rfl, ?_⟩) hHeld ?_
            · intro w hSw; (try dsimp only at hSw); go_simp; (try (with_reducible rfl))
            dsimp only [Act.put]
            refine wpAnyH_take (i := 2) (oi := { dst := some 56, op := Op.move (Operand.tmp 9), type := 3, pos := "tree.go:291", after := #[], guard := none }) (v := .int .i64 (c.ad f.o.root : Nat)) rfl (by kernel_rfl) (by kernel_rfl) (by kernel_rfl) (fun _ _ _ h => h) (Or.inl ⟨by kernel_rfl, ?_⟩) hHeld ?_
            · intro w hSw; (try dsimp only at hSw); go_simp; (try (with_reducible rfl))
            dsimp only [Act.put]
            refine wpAnyH_take (i := 3) (oi := { dst := some 57, op := Op.move (Operand.tmp 8), type := 4, pos := "tree.go:291", after := #[], guard := none }) (v := .bool f.d) rfl (by kernel_rfl) (by kernel_rfl) (by kernel_rfl) (fun _ _ _ h => h) (Or.inl ⟨by kernel_rfl, ?_⟩) hHeld ?_
            · intro w hSw; (try dsimp only at hSw); go_simp; (try (with_reducible rfl))
            dsimp only [Act.put]
            refine wpAnyH_ready (rs := [4]) (by kernel_rfl) (by simp) ?_
            refine AllReadyH.cons (i := 4) (o := { dst := some 58, op := Op.call { callee := Callee.value (Operand.func 53), args := #[Operand.tmp 55, Operand.tmp 56, Operand.tmp 57], argTypes := #[69, 3, 4] }, type := 3, pos := "tree.go:291", after := #[{ on := 1, ground := Ground.data }, { on := 2, ground := Ground.data }, { on := 3, ground := Ground.data }], guard := none }) rfl (fun K hK => ?_) AllReadyH.nil
            go_simp
            (go_at_call 53; (with_reducible refine (UC.out.td.childW RWF.out f.d).mono ?_); rintro e wc ⟨rfl, hbc⟩; have UC := Lib.hid (UC.out.below hbc); have C1 := Lib.hid UC.out.cell; replace hbc := Lib.hid hbc)
            (try go_wp2_with fail)
            refine hK.out _ _ UC.out.cell (fun hHeld => ?_)
            clear hK K
            refine wpAnyH_ready (rs := [5]) (by kernel_rfl) (by simp) ?_
            refine AllReadyH.cons (i := 5) (o := { dst := some 59, op := Op.call { callee := Callee.value (Operand.func 54), args := #[Operand.tmp 54, Operand.tmp 58], argTypes := #[69, 3] }, type := 4, pos := "tree.go:291", after := #[{ on := 0, ground := Ground.data }, { on := 4, ground := Ground.data }, { on := 4, ground := Ground.chain }], guard := none }) rfl (fun K hK => ?_) AllReadyH.nil
            go_simp
            (go_at_call 54; (with_reducible refine (UC.out.td.redW RWF.out f.d NR.out).mono ?_); rintro e wc ⟨rfl, hbc⟩; have UC := Lib.hid (UC.out.below hbc); have C1 := Lib.hid UC.out.cell; replace hbc := Lib.hid hbc)
            (try go_wp2_with fail)
            refine hK.out _ _ UC.out.cell (fun hHeld => ?_)
            clear hK K
            refine wpAnyH_take (i := 6) (oi := { dst := some 60, op := Op.unOp UnOp.not 4 (Operand.tmp 59), type := 4, pos := "tree.go:291", after := #[{ on := 5, ground := Ground.data }], guard := none }) (v := .bool false) rfl (by kernel_rfl) (by kernel_rfl) (by kernel_rfl) (fun _ _ _ h => h) (Or.inl ⟨by kernel_rfl, ?_⟩) hHeld ?_
            · intro w hSw; (try dsimp only at hSw); go_simp; (try (with_reducible rfl))
            dsimp only [Act.put]
            refine wpAnyH_take (i := 7) (oi := { dst := some 61, op := Op.move (Operand.tmp 60), type := 4, pos := "tree.go:291", after := #[{ on := 6, ground := Ground.data }, { on := 5, ground := Ground.chain }], guard := none }) (v := .bool false) rfl (by kernel_rfl) (by kernel_rfl) (by kernel_rfl) (fun _ _ _ h => h) (Or.inl ⟨by kernel_rfl, ?_⟩) hHeld ?_
            · intro w hSw; (try dsimp only at hSw); go_simp; (try (with_reducible rfl))
            dsimp only [Act.put]
            refine wpAnyH_take (i := 8) (oi := { dst := some 62, op := Op.load 69 (Operand.tmp 4), type := 69, pos := "tree.go:291", after := #[{ on := 7, ground := Ground.guard }], guard := some (7, true) }) (v := undef) rfl (by kernel_rfl) (by kernel_rfl) (by kernel_rfl) (fun _ _ _ h => h) (Or.inr ⟨by kernel_rfl, rfl⟩) hHeld ?_
            dsimp only [Act.put]
            refine wpAnyH_take (i := 9) (oi := { dst := some 63, op := Op.load 69 (Operand.tmp 4), type := 69, pos := "tree.go:291", after := #[{ on := 7, ground := Ground.guard }], guard := some (7, true) }) (v := undef) rfl (by kernel_rfl) (by kernel_rfl) (by kernel_rfl) (fun _ _ _ h => h) (Or.inr ⟨by kernel_rfl, rfl⟩) hHeld ?_
            dsimp only [Act.put]
            refine wpAnyH_take (i := 10) (oi := { dst := some 64, op := Op.move (Operand.tmp 9), type := 3, pos := "tree.go:291", after := #[{ on := 7, ground := Ground.guard }], guard := some (7, true) }) (v := undef) rfl (by kernel_rfl) (by kernel_rfl) (by kernel_rfl) (fun _ _ _ h => h) (Or.inr ⟨by kernel_rfl, rfl⟩) hHeld ?_
            dsimp only [Act.put]
            refine wpAnyH_take (i := 11) (oi := { dst := some 65, op := Op.move (Operand.tmp 8), type := 4, pos := "tree.go:291", after := #[{ on := 7, ground := Ground.guard }], guard := some (7, true) }) (v := undef) rfl (by kernel_rfl) (by kernel_rfl) (by kernel_rfl) (fun _ _ _ h => h) (Or.inr ⟨by kernel_rfl, rfl⟩) hHeld ?_
            dsimp only [Act.put]
            refine wpAnyH_take (i := 12) (oi := { dst := some 66, op := Op.unOp UnOp.not 4 (Operand.tmp 65), type := 4, pos := "tree.go:291", after := #[{ on := 11, ground := Ground.data }, { on := 7, ground := Ground.guard }], guard := some (7, true) }) (v := undef) rfl (by kernel_rfl) (by kernel_rfl) (by kernel_rfl) (fun _ _ _ h => h) (Or.inr ⟨by kernel_rfl, rfl⟩) hHeld ?_
            dsimp only [Act.put]
            refine wpAnyH_take (i := 13) (oi := { dst := some 67, op := Op.call { callee := Callee.value (Operand.func 53), args := #[Operand.tmp 63, Operand.tmp 64, Operand.tmp 66], argTypes := #[69, 3, 4] }, type := 3, pos := "tree.go:291", after := #[{ on := 9, ground := Ground.data }, { on := 10, ground := Ground.data }, { on := 12, ground := Ground.data }, { on := 7, ground := Ground.chain }, { on := 7, ground := Ground.guard }], guard := some (7, true) }) (v := undef) rfl (by kernel_rfl) (by kernel_rfl) (by kernel_rfl) (fun _ _ _ h => h) (Or.inr ⟨by kernel_rfl, rfl⟩) hHeld ?_
            dsimp only [Act.put]
            refine wpAnyH_take (i := 14) (oi := { dst := some 68, op := Op.call { callee := Callee.value (Operand.func 54), args := #[Operand.tmp 62, Operand.tmp 67], argTypes := #[69, 3] }, type := 4, pos := "tree.go:291", after := #[{ on := 8, ground := Ground.data }, { on := 13, ground := Ground.data }, { on := 13, ground := Ground.chain }, { on := 7, ground := Ground.guard }], guard := some (7, true) }) (v := undef) rfl (by kernel_rfl) (by kernel_rfl) (by kernel_rfl) (fun _ _ _ h => h) (Or.inr ⟨by kernel_rfl, rfl⟩) hHeld ?_
            dsimp only [Act.put]
            refine wpAnyH_take (i := 15) (oi := { dst := some 69, op := Op.unOp UnOp.not 4 (Operand.tmp 68), type := 4, pos := "tree.go:291", after := #[{ on := 14, ground := Ground.data }, { on := 7, ground := Ground.guard }], guard := some (7, true) }) (v := undef) rfl (by kernel_rfl) (by kernel_rfl) (by kernel_rfl) (fun _ _ _ h => h) (Or.inr ⟨by kernel_rfl, rfl⟩) hHeld ?_
            dsimp only [Act.put]
            refine wpAnyH_take (i := 16) (oi := { dst := some 70, op := Op.pick (Operand.tmp 61) (Operand.tmp 69) (Operand.const (Value.bool false)), type := 4, pos := "tree.go:291", after := #[{ on := 7, ground := Ground.data }, { on := 15, ground := Ground.data }], guard := none }) (v := .bool false) rfl (by kernel_rfl) (by kernel_rfl) (by kernel_rfl) (fun _ _ _ h => h) (Or.inl ⟨by kernel_rfl, ?_⟩) hHeld ?_
            · intro w hSw; (try dsimp only at hSw); go_simp; (try (with_reducible rfl))
            dsimp only [Act.put]
            refine wpAnyH_done (by kernel_rfl) ?_ _
            refine NoPanic.normal ?_
            simp only [List.setIfInBounds_toArray, List.set_cons_zero, List.set_cons_succ]
            (try clear c1)
            have c1 := C1.out
            go_wp2_with fail
            have UC := Lib.hid UC.out.drew
            go_region_held3 (fun w' => w'.cell? ⟨b, 0, none⟩ = some (.pointer (some ⟨c.p, 0, none⟩))) (first | go_keep | with_reducible exact C1.out) (first
                | (go_at_call 53; (with_reducible refine (UC.out.td.childW RWF.out (!f.d)).mono ?_); rintro e wc ⟨rfl, hbc⟩; have UC := Lib.hid (UC.out.below hbc); have C1 := Lib.hid UC.out.cell; replace hbc := Lib.hid hbc)
                | (go_at_call 54; (with_reducible refine (UC.out.td.redW RWF.out (!f.d) FRR.out).mono ?_); rintro e wc ⟨rfl, hbc⟩; have UC := Lib.hid (UC.out.below hbc); have C1 := Lib.hid UC.out.cell; replace hbc := Lib.hid hbc))
            all_goals
              (try clear c1)
              have c1 := C1.out
              go_wp2_with fail
              have UC := Lib.hid UC.out.drew
              go_region_held3 (fun w' => w'.cell? ⟨b, 0, none⟩ = some (.pointer (some ⟨c.p, 0, none⟩))) (first | go_keep | with_reducible exact C1.out) (first
                  | (go_at_call 34; (with_reducible refine (UC.out.td.colE (.inr FK.out) COL.out).mono ?_); rintro e wc ⟨rfl, hbc⟩; have UC := Lib.hid (UC.out.below hbc); have C1 := Lib.hid UC.out.cell; replace hbc := Lib.hid hbc)
                  | (go_at_call 46; (with_reducible refine (UC.out.td.paint (.inr RWF.out.w) f.c).mono ?_); rintro e wc ⟨⟨uv, rfl⟩, hdc, hfc⟩; have UC := Lib.hid (UC.out.fg hdc hfc); have C1 := Lib.hid UC.out.cell; replace hdc := Lib.hid hdc; replace hfc := Lib.hid hfc))
              all_goals
                (try clear c1)
                have c1 := C1.out
                go_wp2_with (first
                  | (go_at_call 46; (with_reducible refine (UC.out.td.paint0 (.inr FK.out)).mono ?_); rintro e wc ⟨⟨uv, rfl⟩, hdc, hfc⟩; have UC := Lib.hid (UC.out.fg hdc hfc); have C1 := Lib.hid UC.out.cell; (try clear c1); have c1 := C1.out; clear hdc hfc))
                have UC := Lib.hid UC.out.drew
                go_region_held3 (fun w' => w'.cell? ⟨b, 0, none⟩ = some (.pointer (some ⟨c.p, 0, none⟩))) (first | go_keep | with_reducible exact C1.out) (first
                    | (go_at_call 53; (with_reducible refine (UC.out.td.childE (.inr RWF.out.w) (!f.d) FCH.out).mono ?_); rintro e wc ⟨rfl, hbc⟩; have UC := Lib.hid (UC.out.below hbc); have C1 := Lib.hid UC.out.cell; replace hbc := Lib.hid hbc)
                    | (go_at_call 46; (with_reducible refine (UC.out.td.paint0 (RWF.out.nN (!f.d))).mono ?_); rintro e wc ⟨⟨uv, rfl⟩, hdc, hfc⟩; have UC := Lib.hid (UC.out.fg hdc hfc); have C1 := Lib.hid UC.out.cell; replace hdc := Lib.hid hdc; replace hfc := Lib.hid hfc))
                all_goals
                  (try clear c1)
                  have c1 := C1.out
                  go_wp2_with (first
                    | (go_at_call 59; (with_reducible refine (UC.out.td.rotateR RPF.out RPFE.out FK.out).mono ?_); rintro e wc ⟨⟨uv, rfl⟩, hdc, hfc⟩; have UC := Lib.hid (UC.out.fg hdc hfc); have C1 := Lib.hid UC.out.cell; (try clear c1); have c1 := C1.out; clear hdc hfc)
                    | (go_at_call 34; (with_reducible refine (UC.out.td.root).mono ?_); rintro e wc ⟨rfl, hbc⟩; have UC := Lib.hid (UC.out.below hbc); have C1 := Lib.hid UC.out.cell; (try clear c1); have c1 := C1.out; clear hbc))
                  have hi := HI.out
                  have hgk := HGK.out
                  go_roundg 1
                  case measure => omega
                  case rel => exact ⟨i + 1, _, _, f.k, rfl, rfl, by go_num, by omega, hPN, Lib.hid (.inr ⟨Nat.le_refl _, rfl, DN.out.1, DN.out.2⟩), UC⟩
          | false =>
            have NR := Lib.hid hnr
            have FRR := Lib.hid hfr
            clear hnr hfr
            have RNR := HRF.out.near HT.out BLF.out NR.out FRR.out
            obtain ⟨O2, hO2⟩ : ∃ O2, O2 = T.mk f.d false ((f.o.on f.d).on f.d) (f.o.on f.d).root (.mk f.d true ((f.o.on f.d).on (!f.d)) f.o.root (f.o.on (!f.d))) := ⟨_, rfl⟩
            dsimp only at RNR
            rw [← hO2] at RNR
            obtain ⟨uN, tN, pN, rpN, eN⟩ := near_rp HRF.out.rp NR.out
            have RPN : Hid (Rp ((s1.paint (f.o.on f.d).root false).paint f.o.root true) uN tN f.o.root pN) := Lib.hid rpN
            have RPNE := Lib.hid eN
            have O2E : Hid (O2.isE = false) := Lib.hid (by rw [hO2]; exact T.isE_mk ..)
            have O2R : Hid (O2.red = false) := Lib.hid (by rw [hO2]; exact T.red_mk ..)
            have O2F : Hid ((O2.on (!f.d)).red = true) := Lib.hid (by rw [hO2, T.on_mk']; exact T.red_mk ..)
            have WON : Hid ((((s1.paint (f.o.on f.d).root false).paint f.o.root true).turn f.o.root (!f.d)).ch f.k (!f.d) = O2.root) := Lib.hid RNR.1.fr.2.2.1
            have ZN3 : Zn (((s1.paint (f.o.on f.d).root false).paint f.o.root true).turn f.o.root (!f.d)) := ((ZNF.out.paint _ _).paint _ _).turn _ _
            have MEMN : ∀ j, j ∈ (plug (⟨f.d, f.c, f.k, O2⟩ :: u) T1).ns → j ∈ (plug u0 T0).ns := fun j hj => by
              rw [← delFix_ns, RNR.2.1, delFix_ns] at hj; exact hj
            have RWN : Hid (Rw c (((s1.paint (f.o.on f.d).root false).paint f.o.root true).turn f.o.root (!f.d)) O2) := Lib.hid (RNR.1.rw_ ZN3 (fun j hj => HN.out j (MEMN j hj)) O2E.out)
            have HRN := Lib.hid RNR
            have HMN := Lib.hid MEMN
            obtain ⟨s3, hs3⟩ : ∃ s3, s3 = ((s1.paint (f.o.on f.d).root false).paint f.o.root true).turn f.o.root (!f.d) := ⟨_, rfl⟩
            have HS3 := Lib.hid hs3
            clear hO2 rpN eN ZN3 RNR MEMN hs3
            have UC := Lib.hid UC.out.drew
            refine wp_region_noPanic ?_
            refine wp_region_held_drew (S := (fun w' => w'.cell? ⟨b, 0, none⟩ = some (.pointer (some ⟨c.p, 0, none⟩)))) (by kernel_rfl) UC.out.cell (fun hHeld => ?_)
            refine wpAnyH_take (i := 0) (oi := { dst := some 54, op := Op.load 69 (Operand.tmp 4), type := 69, pos := "tree.go:291", after := #[], guard := none }) (v := .agg #[.pointer (some ⟨c.p, 0, none⟩)]) rfl (by kernel_rfl) (by kernel_rfl) (by kernel_rfl) (fun _ _ _ h => h) (Or.inl ⟨by kernel_rfl, ?_⟩) hHeld ?_
            · intro w hSw; (try dsimp only at hSw); go_simp; (try (with_reducible rfl))
            dsimp only [Act.put]
            refine wpAnyH_take (i := 1) (oi := { dst := some 55, op := Op.load 69 (Operand.tmp 4), type := 69, pos := "tree.go:291", after := #[], guard := none }) (v := .agg #[.pointer (some ⟨c.p, 0, none⟩)]) rfl (by kernel_rfl) (by kernel_rfl) (by kernel_rfl) (fun _ _ _ h => h) (Or.inl ⟨by kernel_rfl, ?_⟩) hHeld ?_
            · intro w hSw; (try dsimp only at hSw); go_simp; (try (with_reducible rfl))
            dsimp only [Act.put]
            refine wpAnyH_take (i := 2) (oi := { dst := some 56, op := Op.move (Operand.tmp 9), type := 3, pos := "tree.go:291", after := #[], guard := none }) (v := .int .i64 (c.ad f.o.root : Nat)) rfl (by kernel_rfl) (by kernel_rfl) (by kernel_rfl) (fun _ _ _ h => h) (Or.inl ⟨by kernel_rfl, ?_⟩) hHeld ?_
            · intro w hSw; (try dsimp only at hSw); go_simp; (try (with_reducible rfl))
            dsimp only [Act.put]
            refine wpAnyH_take (i := 3) (oi := { dst := some 57, op := Op.move (Operand.tmp 8), type := 4, pos := "tree.go:291", after := #[], guard := none }) (v := .bool f.d) rfl (by kernel_rfl) (by kernel_rfl) (by kernel_rfl) (fun _ _ _ h => h) (Or.inl ⟨by kernel_rfl, ?_⟩) hHeld ?_
            · intro w hSw; (try dsimp only at hSw); go_simp; (try (with_reducible rfl))
            dsimp only [Act.put]
            refine wpAnyH_ready (rs := [4]) (by kernel_rfl) (by simp) ?_
            refine AllReadyH.cons (i := 4) (o := { dst := some 58, op := Op.call { callee := Callee.value (Operand.func 53), args := #[Operand.tmp 55, Operand.tmp 56, Operand.tmp 57], argTypes := #[69, 3, 4] }, type := 3, pos := "tree.go:291", after := #[{ on := 1, ground := Ground.data }, { on := 2, ground := Ground.data }, { on := 3, ground := Ground.data }], guard := none }) rfl (fun K hK => ?_) AllReadyH.nil
            go_simp
            (go_at_call 53; (with_reducible refine (UC.out.td.childW RWF.out f.d).mono ?_); rintro e wc ⟨rfl, hbc⟩; have UC := Lib.hid (UC.out.below hbc); have C1 := Lib.hid UC.out.cell; replace hbc := Lib.hid hbc)
            (try go_wp2_with fail)
            refine hK.out _ _ UC.out.cell (fun hHeld => ?_)
            clear hK K
            refine wpAnyH_ready (rs := [5]) (by kernel_rfl) (by simp) ?_
            refine AllReadyH.cons (i := 5) (o := { dst := some 59, op := Op.call { callee := Callee.value (Operand.func 54), args := #[Operand.tmp 54, Operand.tmp 58], argTypes := #[69, 3] }, type := 4, pos := "tree.go:291", after := #[{ on := 0, ground := Ground.data }, { on := 4, ground := Ground.data }, { on := 4, ground := Ground.chain }], guard := none }) rfl (fun K hK => ?_) AllReadyH.nil
            go_simp
            (go_at_call 54; (with_reducible refine (UC.out.td.redW RWF.out f.d NR.out).mono ?_); rintro e wc ⟨rfl, hbc⟩; have UC := Lib.hid (UC.out.below hbc); have C1 := Lib.hid UC.out.cell; replace hbc := Lib.hid hbc)
            (try go_wp2_with fail)
            refine hK.out _ _ UC.out.cell (fun hHeld => ?_)
            clear hK K
            refine wpAnyH_take (i := 6) (oi := { dst := some 60, op := Op.unOp UnOp.not 4 (Operand.tmp 59), type := 4, pos := "tree.go:291", after := #[{ on := 5, ground := Ground.data }], guard := none }) (v := .bool false) rfl (by kernel_rfl) (by kernel_rfl) (by kernel_rfl) (fun _ _ _ h => h) (Or.inl ⟨by kernel_rfl, ?_⟩) hHeld ?_
            · intro w hSw; (try dsimp only at hSw); go_simp; (try (with_reducible rfl))
            dsimp only [Act.put]
            refine wpAnyH_take (i := 7) (oi := { dst := some 61, op := Op.move (Operand.tmp 60), type := 4, pos := "tree.go:291", after := #[{ on := 6, ground := Ground.data }, { on := 5, ground := Ground.chain }], guard := none }) (v := .bool false) rfl (by kernel_rfl) (by kernel_rfl) (by kernel_rfl) (fun _ _ _ h => h) (Or.inl ⟨by kernel_rfl, ?_⟩) hHeld ?_
            · intro w hSw; (try dsimp only at hSw); go_simp; (try (with_reducible rfl))
            dsimp only [Act.put]
            refine wpAnyH_take (i := 8) (oi := { dst := some 62, op := Op.load 69 (Operand.tmp 4), type := 69, pos := "tree.go:291", after := #[{ on := 7, ground := Ground.guard }], guard := some (7, true) }) (v := undef) rfl (by kernel_rfl) (by kernel_rfl) (by kernel_rfl) (fun _ _ _ h => h) (Or.inr ⟨by kernel_rfl, rfl⟩) hHeld ?_
            dsimp only [Act.put]
            refine wpAnyH_take (i := 9) (oi := { dst := some 63, op := Op.load 69 (Operand.tmp 4), type := 69, pos := "tree.go:291", after := #[{ on := 7, ground := Ground.guard }], guard := some (7, true) }) (v := undef) rfl (by kernel_rfl) (by kernel_rfl) (by kernel_rfl) (fun _ _ _ h => h) (Or.inr ⟨by kernel_rfl, rfl⟩) hHeld ?_
            dsimp only [Act.put]
            refine wpAnyH_take (i := 10) (oi := { dst := some 64, op := Op.move (Operand.tmp 9), type := 3, pos := "tree.go:291", after := #[{ on := 7, ground := Ground.guard }], guard := some (7, true) }) (v := undef) rfl (by kernel_rfl) (by kernel_rfl) (by kernel_rfl) (fun _ _ _ h => h) (Or.inr ⟨by kernel_rfl, rfl⟩) hHeld ?_
            dsimp only [Act.put]
            refine wpAnyH_take (i := 11) (oi := { dst := some 65, op := Op.move (Operand.tmp 8), type := 4, pos := "tree.go:291", after := #[{ on := 7, ground := Ground.guard }], guard := some (7, true) }) (v := undef) rfl (by kernel_rfl) (by kernel_rfl) (by kernel_rfl) (fun _ _ _ h => h) (Or.inr ⟨by kernel_rfl, rfl⟩) hHeld ?_
            dsimp only [Act.put]
            refine wpAnyH_take (i := 12) (oi := { dst := some 66, op := Op.unOp UnOp.not 4 (Operand.tmp 65), type := 4, pos := "tree.go:291", after := #[{ on := 11, ground := Ground.data }, { on := 7, ground := Ground.guard }], guard := some (7, true) }) (v := undef) rfl (by kernel_rfl) (by kernel_rfl) (by kernel_rfl) (fun _ _ _ h => h) (Or.inr ⟨by kernel_rfl, rfl⟩) hHeld ?_
            dsimp only [Act.put]
            refine wpAnyH_take (i := 13) (oi := { dst := some 67, op := Op.call { callee := Callee.value (Operand.func 53), args := #[Operand.tmp 63, Operand.tmp 64, Operand.tmp 66], argTypes := #[69, 3, 4] }, type := 3, pos := "tree.go:291", after := #[{ on := 9, ground := Ground.data }, { on := 10, ground := Ground.data }, { on := 12, ground := Ground.data }, { on := 7, ground := Ground.chain }, { on := 7, ground := Ground.guard }], guard := some (7, true) }) (v := undef) rfl (by kernel_rfl) (by kernel_rfl) (by kernel_rfl) (fun _ _ _ h => h) (Or.inr ⟨by kernel_rfl, rfl⟩) hHeld ?_
            dsimp only [Act.put]
            refine wpAnyH_take (i := 14) (oi := { dst := some 68, op := Op.call { callee := Callee.value (Operand.func 54), args := #[Operand.tmp 62, Operand.tmp 67], argTypes := #[69, 3] }, type := 4, pos := "tree.go:291", after := #[{ on := 8, ground := Ground.data }, { on := 13, ground := Ground.data }, { on := 13, ground := Ground.chain }, { on := 7, ground := Ground.guard }], guard := some (7, true) }) (v := undef) rfl (by kernel_rfl) (by kernel_rfl) (by kernel_rfl) (fun _ _ _ h => h) (Or.inr ⟨by kernel_rfl, rfl⟩) hHeld ?_
            dsimp only [Act.put]
            refine wpAnyH_take (i := 15) (oi := { dst := some 69, op := Op.unOp UnOp.not 4 (Operand.tmp 68), type := 4, pos := "tree.go:291", after := #[{ on := 14, ground := Ground.data }, { on := 7, ground := Ground.guard }], guard := some (7, true) }) (v := undef) rfl (by kernel_rfl) (by kernel_rfl) (by kernel_rfl) (fun _ _ _ h => h) (Or.inr ⟨by kernel_rfl, rfl⟩) hHeld ?_
            dsimp only [Act.put]
            refine wpAnyH_take (i := 16) (oi := { dst := some 70, op := Op.pick (Operand.tmp 61) (Operand.tmp 69) (Operand.const (Value.bool false)), type := 4, pos := "tree.go:291", after := #[{ on := 7, ground := Ground.data }, { on := 15, ground := Ground.data }], guard := none }) (v := .bool false) rfl (by kernel_rfl) (by kernel_rfl) (by kernel_rfl) (fun _ _ _ h => h) (Or.inl ⟨by kernel_rfl, ?_⟩) hHeld ?_
            · intro w hSw; (try dsimp only at hSw); go_simp; (try (with_reducible rfl))
            dsimp only [Act.put]
            refine wpAnyH_done (by kernel_rfl) ?_ _
            refine NoPanic.normal ?_
            simp only [List.setIfInBounds_toArray, List.set_cons_zero, List.set_cons_succ]
            (try clear c1)
            have c1 := C1.out
            go_wp2_with fail
            have UC := Lib.hid UC.out.drew
            go_region_held3 (fun w' => w'.cell? ⟨b, 0, none⟩ = some (.pointer (some ⟨c.p, 0, none⟩))) (first | go_keep | with_reducible exact C1.out) (first
                | (go_at_call 53; (with_reducible refine (UC.out.td.childW RWF.out (!f.d)).mono ?_); rintro e wc ⟨rfl, hbc⟩; have UC := Lib.hid (UC.out.below hbc); have C1 := Lib.hid UC.out.cell; replace hbc := Lib.hid hbc)
                | (go_at_call 54; (with_reducible refine (UC.out.td.redW RWF.out (!f.d) FRR.out).mono ?_); rintro e wc ⟨rfl, hbc⟩; have UC := Lib.hid (UC.out.below hbc); have C1 := Lib.hid UC.out.cell; replace hbc := Lib.hid hbc))
            all_goals
              (try clear c1)
              have c1 := C1.out
              go_wp2_with fail
              have UC := Lib.hid UC.out.drew
              go_region_held3 (fun w' => w'.cell? ⟨b, 0, none⟩ = some (.pointer (some ⟨c.p, 0, none⟩))) (first | go_keep | with_reducible exact C1.out) (first
                  | (go_at_call 53; (with_reducible refine (UC.out.td.childW RWF.out f.d).mono ?_); rintro e wc ⟨rfl, hbc⟩; have UC := Lib.hid (UC.out.below hbc); have C1 := Lib.hid UC.out.cell; replace hbc := Lib.hid hbc)
                  | (go_at_call 46; (with_reducible refine (UC.out.td.paint0 (RWF.out.nN f.d)).mono ?_); rintro e wc ⟨⟨uv, rfl⟩, hdc, hfc⟩; have UC := Lib.hid (UC.out.fg hdc hfc); have C1 := Lib.hid UC.out.cell; replace hdc := Lib.hid hdc; replace hfc := Lib.hid hfc))
              all_goals
                (try clear c1)
                have c1 := C1.out
                go_wp2_with (first
                  | (go_at_call 46; (with_reducible refine (UC.out.td.paint1 (.inr RWF.out.w)).mono ?_); rintro e wc ⟨⟨uv, rfl⟩, hdc, hfc⟩; have UC := Lib.hid (UC.out.fg hdc hfc); have C1 := Lib.hid UC.out.cell; (try clear c1); have c1 := C1.out; clear hdc hfc)
                  | (go_at_call 59; (with_reducible refine (UC.out.td.rotateR RPN.out RPNE.out RWF.out.w).mono ?_); rintro e wc ⟨⟨uv, rfl⟩, hdc, hfc⟩; have UC := Lib.hid (UC.out.fg hdc hfc); have C1 := Lib.hid UC.out.cell; (try clear c1); have c1 := C1.out; clear hdc hfc)
                  | (go_at_call 53; (with_reducible refine (UC.out.td.childE (.inr FK.out) (!f.d) WON.out).mono ?_); rintro e wc ⟨rfl, hbc⟩; have UC := Lib.hid (UC.out.below hbc); have C1 := Lib.hid UC.out.cell; (try clear c1); have c1 := C1.out; clear hbc))
                rw [← HS3.out] at UC HRN RWN
                have COL : Hid (s3.red f.k = f.c) := Lib.hid (by have := (HRN.out.1).fr.2.2.2.1; exact this)
                have FCH : Hid (((s3.paint O2.root f.c).paint f.k false).ch O2.root (!f.d) = (O2.on (!f.d)).root) := Lib.hid (by rw [Tr.ch_paint, Tr.ch_paint]; exact RWN.out.ch _)
                obtain ⟨uF, tF, pF, rpF, eF⟩ := far_rp (HRN.out.1) O2E.out
                have RPF : Hid (Rp (((s3.paint O2.root f.c).paint f.k false).paint (O2.on (!f.d)).root false) uF tF f.k pF) := Lib.hid rpF
                have RPFE := Lib.hid eF
                have DN : Hid (Rp ((((s3.paint O2.root f.c).paint f.k false).paint (O2.on (!f.d)).root false).turn f.k f.d) [] (delFix u0 T0) ((((s3.paint O2.root f.c).paint f.k false).paint (O2.on (!f.d)).root false).turn f.k f.d).top 0 ∧ Out (plug u0 T0).ns s ((((s3.paint O2.root f.c).paint f.k false).paint (O2.on (!f.d)).root false).turn f.k f.d)) := Lib.hid (far_done (HRN.out.1) HT.out O2E.out O2R.out O2F.out (HRN.out.2.1) (HRN.out.2.2) (HMN.out))
                clear rpF eF
                go_wp2_with fail
                have UC := Lib.hid UC.out.drew
                go_region_held3 (fun w' => w'.cell? ⟨b, 0, none⟩ = some (.pointer (some ⟨c.p, 0, none⟩))) (first | go_keep | with_reducible exact C1.out) (first
                    | (go_at_call 34; (with_reducible refine (UC.out.td.colE (.inr FK.out) COL.out).mono ?_); rintro e wc ⟨rfl, hbc⟩; have UC := Lib.hid (UC.out.below hbc); have C1 := Lib.hid UC.out.cell; replace hbc := Lib.hid hbc)
                    | (go_at_call 46; (with_reducible refine (UC.out.td.paint (.inr RWN.out.w) f.c).mono ?_); rintro e wc ⟨⟨uv, rfl⟩, hdc, hfc⟩; have UC := Lib.hid (UC.out.fg hdc hfc); have C1 := Lib.hid UC.out.cell; replace hdc := Lib.hid hdc; replace hfc := Lib.hid hfc))
                all_goals
                  (try clear c1)
                  have c1 := C1.out
                  go_wp2_with (first
                    | (go_at_call 46; (with_reducible refine (UC.out.td.paint0 (.inr FK.out)).mono ?_); rintro e wc ⟨⟨uv, rfl⟩, hdc, hfc⟩; have UC := Lib.hid (UC.out.fg hdc hfc); have C1 := Lib.hid UC.out.cell; (try clear c1); have c1 := C1.out; clear hdc hfc))
                  have UC := Lib.hid UC.out.drew
                  go_region_held3 (fun w' => w'.cell? ⟨b, 0, none⟩ = some (.pointer (some ⟨c.p, 0, none⟩))) (first | go_keep | with_reducible exact C1.out) (first
                      | (go_at_call 53; (with_reducible refine (UC.out.td.childE (.inr RWN.out.w) (!f.d) FCH.out).mono ?_); rintro e wc ⟨rfl, hbc⟩; have UC := Lib.hid (UC.out.below hbc); have C1 := Lib.hid UC.out.cell; replace hbc := Lib.hid hbc)
                      | (go_at_call 46; (with_reducible refine (UC.out.td.paint0 (RWN.out.nN (!f.d))).mono ?_); rintro e wc ⟨⟨uv, rfl⟩, hdc, hfc⟩; have UC := Lib.hid (UC.out.fg hdc hfc); have C1 := Lib.hid UC.out.cell; replace hdc := Lib.hid hdc; replace hfc := Lib.hid hfc))
                  all_goals
                    (try clear c1)
                    have c1 := C1.out
                    go_wp2_with (first
                      | (go_at_call 59; (with_reducible refine (UC.out.td.rotateR RPF.out RPFE.out FK.out).mono ?_); rintro e wc ⟨⟨uv, rfl⟩, hdc, hfc⟩; have UC := Lib.hid (UC.out.fg hdc hfc); have C1 := Lib.hid UC.out.cell; (try clear c1); have c1 := C1.out; clear hdc hfc)
                      | (go_at_call 34; (with_reducible refine (UC.out.td.root).mono ?_); rintro e wc ⟨rfl, hbc⟩; have UC := Lib.hid (UC.out.below hbc); have C1 := Lib.hid UC.out.cell; (try clear c1); have c1 := C1.out; clear hbc))
                    have hi := HI.out
                    have hgk := HGK.out
                    go_roundg 1
                    case measure => omega
                    case rel => exact ⟨i + 1, _, _, f.k, rfl, rfl, by go_num, by omega, hPN, Lib.hid (.inr ⟨Nat.le_refl _, rfl, DN.out.1, DN.out.2⟩), UC⟩
        | false =>
          cases hfr : (f.o.on (!f.d)).red with
          | true =>
            have NR := Lib.hid hnr
            have FRR := Lib.hid hfr
            clear hnr hfr
            have COL : Hid (s1.red f.k = f.c) := Lib.hid (by have := (HRF.out.rp).fr.2.2.2.1; exact this)
            have FCH : Hid (((s1.paint f.o.root f.c).paint f.k false).ch f.o.root (!f.d) = (f.o.on (!f.d)).root) := Lib.hid (by rw [Tr.ch_paint, Tr.ch_paint]; exact RWF.out.ch _)
            obtain ⟨uF, tF, pF, rpF, eF⟩ := far_rp (HRF.out.rp) OEF.out
            have RPF : Hid (Rp (((s1.paint f.o.root f.c).paint f.k false).paint (f.o.on (!f.d)).root false) uF tF f.k pF) := Lib.hid rpF
            have RPFE := Lib.hid eF
            have DN : Hid (Rp ((((s1.paint f.o.root f.c).paint f.k false).paint (f.o.on (!f.d)).root false).turn f.k f.d) [] (delFix u0 T0) ((((s1.paint f.o.root f.c).paint f.k false).paint (f.o.on (!f.d)).root false).turn f.k f.d).top 0 ∧ Out (plug u0 T0).ns s ((((s1.paint f.o.root f.c).paint f.k false).paint (f.o.on (!f.d)).root false).turn f.k f.d)) := Lib.hid (far_done (HRF.out.rp) HT.out OEF.out BLF.out FRR.out (HRF.out.fx) (HRF.out.out) (HRF.out.mem))
            clear rpF eF
            have UC := Lib.hid UC.out.drew
            go_region_held3 (fun w' => w'.cell? ⟨b, 0, none⟩ = some (.pointer (some ⟨c.p, 0, none⟩))) (first | go_keep | with_reducible exact C1.out) (first
                | (go_at_call 53; (with_reducible refine (UC.out.td.childW RWF.out f.d).mono ?_); rintro e wc ⟨rfl, hbc⟩; have UC := Lib.hid (UC.out.below hbc); have C1 := Lib.hid UC.out.cell; replace hbc := Lib.hid hbc)
                | (go_at_call 54; (with_reducible refine (UC.out.td.redW RWF.out f.d NR.out).mono ?_); rintro e wc ⟨rfl, hbc⟩; have UC := Lib.hid (UC.out.below hbc); have C1 := Lib.hid UC.out.cell; replace hbc := Lib.hid hbc)
                | (go_at_call 53; (with_reducible refine (UC.out.td.childW RWF.out (!f.d)).mono ?_); rintro e wc ⟨rfl, hbc⟩; have UC := Lib.hid (UC.out.below hbc); have C1 := Lib.hid UC.out.cell; replace hbc := Lib.hid hbc)
                | (go_at_call 54; (with_reducible refine (UC.out.td.redW RWF.out (!f.d) FRR.out).mono ?_); rintro e wc ⟨rfl, hbc⟩; have UC := Lib.hid (UC.out.below hbc); have C1 := Lib.hid UC.out.cell; replace hbc := Lib.hid hbc))
            all_goals
              (try clear c1)
              have c1 := C1.out
              go_wp2_with fail
              have UC := Lib.hid UC.out.drew
              go_region_held3 (fun w' => w'.cell? ⟨b, 0, none⟩ = some (.pointer (some ⟨c.p, 0, none⟩))) (first | go_keep | with_reducible exact C1.out) (first
                  | (go_at_call 53; (with_reducible refine (UC.out.td.childW RWF.out (!f.d)).mono ?_); rintro e wc ⟨rfl, hbc⟩; have UC := Lib.hid (UC.out.below hbc); have C1 := Lib.hid UC.out.cell; replace hbc := Lib.hid hbc)
                  | (go_at_call 54; (with_reducible refine (UC.out.td.redW RWF.out (!f.d) FRR.out).mono ?_); rintro e wc ⟨rfl, hbc⟩; have UC := Lib.hid (UC.out.below hbc); have C1 := Lib.hid UC.out.cell; replace hbc := Lib.hid hbc))
              all_goals
                (try clear c1)
                have c1 := C1.out
                go_wp2_with fail
                have UC := Lib.hid UC.out.drew
                go_region_held3 (fun w' => w'.cell? ⟨b, 0, none⟩ = some (.pointer (some ⟨c.p, 0, none⟩))) (first | go_keep | with_reducible exact C1.out) (first
                    | (go_at_call 34; (with_reducible refine (UC.out.td.colE (.inr FK.out) COL.out).mono ?_); rintro e wc ⟨rfl, hbc⟩; have UC := Lib.hid (UC.out.below hbc); have C1 := Lib.hid UC.out.cell; replace hbc := Lib.hid hbc)
                    | (go_at_call 46; (with_reducible refine (UC.out.td.paint (.inr RWF.out.w) f.c).mono ?_); rintro e wc ⟨⟨uv, rfl⟩, hdc, hfc⟩; have UC := Lib.hid (UC.out.fg hdc hfc); have C1 := Lib.hid UC.out.cell; replace hdc := Lib.hid hdc; replace hfc := Lib.hid hfc))
                all_goals
                  (try clear c1)
                  have c1 := C1.out
                  go_wp2_with (first
                    | (go_at_call 46; (with_reducible refine (UC.out.td.paint0 (.inr FK.out)).mono ?_); rintro e wc ⟨⟨uv, rfl⟩, hdc, hfc⟩; have UC := Lib.hid (UC.out.fg hdc hfc); have C1 := Lib.hid UC.out.cell; (try clear c1); have c1 := C1.out; clear hdc hfc))
                  have UC := Lib.hid UC.out.drew
                  go_region_held3 (fun w' => w'.cell? ⟨b, 0, none⟩ = some (.pointer (some ⟨c.p, 0, none⟩))) (first | go_keep | with_reducible exact C1.out) (first
                      | (go_at_call 53; (with_reducible refine (UC.out.td.childE (.inr RWF.out.w) (!f.d) FCH.out).mono ?_); rintro e wc ⟨rfl, hbc⟩; have UC := Lib.hid (UC.out.below hbc); have C1 := Lib.hid UC.out.cell; replace hbc := Lib.hid hbc)
                      | (go_at_call 46; (with_reducible refine (UC.out.td.paint0 (RWF.out.nN (!f.d))).mono ?_); rintro e wc ⟨⟨uv, rfl⟩, hdc, hfc⟩; have UC := Lib.hid (UC.out.fg hdc hfc); have C1 := Lib.hid UC.out.cell; replace hdc := Lib.hid hdc; replace hfc := Lib.hid hfc))
                  all_goals
                    (try clear c1)
                    have c1 := C1.out
                    go_wp2_with (first
                      | (go_at_call 59; (with_reducible refine (UC.out.td.rotateR RPF.out RPFE.out FK.out).mono ?_); rintro e wc ⟨⟨uv, rfl⟩, hdc, hfc⟩; have UC := Lib.hid (UC.out.fg hdc hfc); have C1 := Lib.hid UC.out.cell; (try clear c1); have c1 := C1.out; clear hdc hfc)
                      | (go_at_call 34; (with_reducible refine (UC.out.td.root).mono ?_); rintro e wc ⟨rfl, hbc⟩; have UC := Lib.hid (UC.out.below hbc); have C1 := Lib.hid UC.out.cell; (try clear c1); have c1 := C1.out; clear hbc))
                    have hi := HI.out
                    have hgk := HGK.out
                    go_roundg 1
                    case measure => omega
                    case rel => exact ⟨i + 1, _, _, f.k, rfl, rfl, by go_num, by omega, hPN, Lib.hid (.inr ⟨Nat.le_refl _, rfl, DN.out.1, DN.out.2⟩), UC⟩
          | false =>
            have NR := Lib.hid hnr
            have FRR := Lib.hid hfr
            clear hnr hfr
            have RD := Lib.hid (HRF.out.two HT.out BLF.out NR.out FRR.out)
            have EPP : Hid ((s1.paint f.o.root true).par f.k = s1.par f.k) := Lib.hid (Tr.par_paint ..)
            have UC := Lib.hid UC.out.drew
            go_region_held3 (fun w' => w'.cell? ⟨b, 0, none⟩ = some (.pointer (some ⟨c.p, 0, none⟩))) (first | go_keep | with_reducible exact C1.out) (first
                | (go_at_call 53; (with_reducible refine (UC.out.td.childW RWF.out f.d).mono ?_); rintro e wc ⟨rfl, hbc⟩; have UC := Lib.hid (UC.out.below hbc); have C1 := Lib.hid UC.out.cell; replace hbc := Lib.hid hbc)
                | (go_at_call 54; (with_reducible refine (UC.out.td.redW RWF.out f.d NR.out).mono ?_); rintro e wc ⟨rfl, hbc⟩; have UC := Lib.hid (UC.out.below hbc); have C1 := Lib.hid UC.out.cell; replace hbc := Lib.hid hbc)
                | (go_at_call 53; (with_reducible refine (UC.out.td.childW RWF.out (!f.d)).mono ?_); rintro e wc ⟨rfl, hbc⟩; have UC := Lib.hid (UC.out.below hbc); have C1 := Lib.hid UC.out.cell; replace hbc := Lib.hid hbc)
                | (go_at_call 54; (with_reducible refine (UC.out.td.redW RWF.out (!f.d) FRR.out).mono ?_); rintro e wc ⟨rfl, hbc⟩; have UC := Lib.hid (UC.out.below hbc); have C1 := Lib.hid UC.out.cell; replace hbc := Lib.hid hbc))
            all_goals
              (try clear c1)
              have c1 := C1.out
              have PN2 : Hid (s1.par f.k = 0 ∨ c.N (s1.par f.k)) := Lib.hid (UC.out.td.parN (.inr FK.out))
              go_wp2_with (first
                | (go_at_call 46; (with_reducible refine (UC.out.td.paint1 (.inr RWF.out.w)).mono ?_); rintro e wc ⟨⟨uv, rfl⟩, hdc, hfc⟩; have UC := Lib.hid (UC.out.fg hdc hfc); have C1 := Lib.hid UC.out.cell; (try clear c1); have c1 := C1.out; clear hdc hfc)
                | (go_at_call 34; (with_reducible refine (UC.out.td.parE (.inr FK.out) EPP.out).mono ?_); rintro e wc ⟨rfl, hbc⟩; have UC := Lib.hid (UC.out.below hbc); have C1 := Lib.hid UC.out.cell; (try clear c1); have c1 := C1.out; clear hbc))
              have hi := HI.out
              have hgk := HGK.out
              go_roundg (u.length + 2)
              case measure => omega
              case rel => exact ⟨i + 1, _, f.k, _, rfl, rfl, by go_num, by omega, PN2, Lib.hid (.inl ⟨_, _, .inr rfl, RD.out⟩), UC⟩
      | true =>
        have RO2 : Hid (s1.red f.o.root = true) := Lib.hid (by rw [RO.out]; exact hwr)
        have R1 := HR.out.one HT.out hwr
        obtain ⟨hfc1, hb1, hb2⟩ := HOS.out hwr
        obtain ⟨O1, hO1⟩ : ∃ O1, O1 = f.o.on f.d := ⟨_, rfl⟩
        obtain ⟨u1, t1, rp1, e1⟩ := one_rp HR.out.rp
        have RP1 : Hid (Rp ((s1.paint f.o.root false).paint f.k true) u1 t1 f.k (((s1.paint f.o.root false).paint f.k true).par f.k)) := Lib.hid rp1
        have RPE := Lib.hid e1
        rw [← hO1] at R1 hb1
        have WO2 : Hid ((((s1.paint f.o.root false).paint f.k true).turn f.k f.d).ch f.k (!f.d) = O1.root) := Lib.hid R1.rp.fr.2.2.1
        have oe := (R1.sib HT.out).1
        have zn2 : Zn (((s1.paint f.o.root false).paint f.k true).turn f.k f.d) := ((ZN.out.paint _ _).paint _ _).turn _ _
        have rwf := R1.rp.rw_ zn2 (fun j hj => HN.out j (R1.mem j hj)) oe
        obtain ⟨s2, hs2⟩ : ∃ s2, s2 = ((s1.paint f.o.root false).paint f.k true).turn f.k f.d := ⟨_, rfl⟩
        rw [← hs2] at R1 zn2 rwf
        have HRF : Hid (Rd u0 T0 s s2 (⟨f.d, true, f.k, O1⟩ :: ⟨f.d, false, f.o.root, f.o.on (!f.d)⟩ :: u) T1 x f.k) := Lib.hid R1
        have BLF := Lib.hid hb1
        have OEF : Hid (O1.isE = false) := Lib.hid oe
        have RWF : Hid (Rw c s2 O1) := Lib.hid rwf
        have ZNF := Lib.hid zn2
        have HS2 := Lib.hid hs2
        clear hwr R1 hfc1 hb1 hb2 hO1 rp1 e1 oe zn2 rwf hs2
        have ntop := NT.out
        have hside := HS.out
        go_wp2_with (first
          | (go_at_call 34; (with_reducible refine (UC.out.td.root).mono ?_); rintro e wc ⟨rfl, hbc⟩; have UC := Lib.hid (UC.out.below hbc); have C1 := Lib.hid UC.out.cell; (try clear c1); have c1 := C1.out; clear hbc)
          | (go_at_call 54; (with_reducible refine (UC.out.td.redE XN.out hred.out).mono ?_); rintro e wc ⟨rfl, hbc⟩; have UC := Lib.hid (UC.out.below hbc); have C1 := Lib.hid UC.out.cell; (try clear c1); have c1 := C1.out; clear hbc)
          | (go_at_call 53; (with_reducible refine (UC.out.td.child (.inr FK.out) true).mono ?_); rintro e wc ⟨rfl, hbc⟩; have UC := Lib.hid (UC.out.below hbc); have C1 := Lib.hid UC.out.cell; (try clear c1); have c1 := C1.out; clear hbc)
          | (go_at_call 53; (with_reducible refine (UC.out.td.childE (.inr FK.out) (!f.d) WO.out).mono ?_); rintro e wc ⟨rfl, hbc⟩; have UC := Lib.hid (UC.out.below hbc); have C1 := Lib.hid UC.out.cell; (try clear c1); have c1 := C1.out; clear hbc)
          | (go_at_call 54; (with_reducible refine (UC.out.td.redE (.inr RW1.out.w) RO2.out).mono ?_); rintro e wc ⟨rfl, hbc⟩; have UC := Lib.hid (UC.out.below hbc); have C1 := Lib.hid UC.out.cell; (try clear c1); have c1 := C1.out; clear hbc)
          | (go_at_call 46; (with_reducible refine (UC.out.td.paint0 (.inr RW1.out.w)).mono ?_); rintro e wc ⟨⟨uv, rfl⟩, hdc, hfc⟩; have UC := Lib.hid (UC.out.fg hdc hfc); have C1 := Lib.hid UC.out.cell; (try clear c1); have c1 := C1.out; clear hdc hfc)
          | (go_at_call 46; (with_reducible refine (UC.out.td.paint1 (.inr FK.out)).mono ?_); rintro e wc ⟨⟨uv, rfl⟩, hdc, hfc⟩; have UC := Lib.hid (UC.out.fg hdc hfc); have C1 := Lib.hid UC.out.cell; (try clear c1); have c1 := C1.out; clear hdc hfc)
          | (go_at_call 59; (with_reducible refine (UC.out.td.rotateR RP1.out RPE.out FK.out).mono ?_); rintro e wc ⟨⟨uv, rfl⟩, hdc, hfc⟩; have UC := Lib.hid (UC.out.fg hdc hfc); have C1 := Lib.hid UC.out.cell; (try clear c1); have c1 := C1.out; clear hdc hfc)
          | (go_at_call 53; (with_reducible refine (UC.out.td.childE (.inr FK.out) (!f.d) WO2.out).mono ?_); rintro e wc ⟨rfl, hbc⟩; have UC := Lib.hid (UC.out.below hbc); have C1 := Lib.hid UC.out.cell; (try clear c1); have c1 := C1.out; clear hbc))
        clear ntop hside
        rw [← HS2.out] at UC
        cases hnr : (O1.on f.d).red with
        | true =>
          cases hfr : (O1.on (!f.d)).red with
          | true =>
            have NR := Lib.hid hnr
            have FRR := Lib.hid hfr
            clear hnr hfr
            have COL : Hid (s2.red f.k = true) := Lib.hid (by have := (HRF.out.rp).fr.2.2.2.1; exact this)
            have FCH : Hid (((s2.paint O1.root true).paint f.k false).ch O1.root (!f.d) = (O1.on (!f.d)).root) := Lib.hid (by rw [Tr.ch_paint, Tr.ch_paint]; exact RWF.out.ch _)
            obtain ⟨uF, tF, pF, rpF, eF⟩ := far_rp (HRF.out.rp) OEF.out
            have RPF : Hid (Rp (((s2.paint O1.root true).paint f.k false).paint (O1.on (!f.d)).root false) uF tF f.k pF) := Lib.hid rpF
            have RPFE := Lib.hid eF
            have DN : Hid (Rp ((((s2.paint O1.root true).paint f.k false).paint (O1.on (!f.d)).root false).turn f.k f.d) [] (delFix u0 T0) ((((s2.paint O1.root true).paint f.k false).paint (O1.on (!f.d)).root false).turn f.k f.d).top 0 ∧ Out (plug u0 T0).ns s ((((s2.paint O1.root true).paint f.k false).paint (O1.on (!f.d)).root false).turn f.k f.d)) := Lib.hid (far_done (HRF.out.rp) HT.out OEF.out BLF.out FRR.out (HRF.out.fx) (HRF.out.out) (HRF.out.mem))
            clear rpF eF
            have UC := Lib.hid UC.out.drew
            refine wp_region_noPanic ?_
            refine wp_region_held_drew (S := (fun w' => w'.cell? ⟨b, 0, none⟩ = some (.pointer (some ⟨c.p, 0, none⟩)))) (by kernel_rfl) UC.out.cell (fun hHeld => ?_)
            refine wpAnyH_take (i := 0) (oi := { dst := some 54, op := Op.load 69 (Operand.tmp 4), type := 69, pos := "tree.go:291", after := #[], guard := none }) (v := .agg #[.pointer (some ⟨c.p, 0, none⟩)]) rfl (by kernel_rfl) (by kernel_rfl) (by kernel_rfl) (fun _ _ _ h => h) (Or.inl ⟨by kernel_rfl, ?_⟩) hHeld ?_
            · intro w hSw; (try dsimp only at hSw); go_simp; (try (with_reducible rfl))
            dsimp only [Act.put]
            refine wpAnyH_take (i := 1) (oi := { dst := some 55, op := Op.load 69 (Operand.tmp 4), type := 69, pos := "tree.go:291", after := #[], guard := none }) (v := .agg #[.pointer (some ⟨c.p, 0, none⟩)]) rfl (by kernel_rfl) (by kernel_rfl) (by kernel_rfl) (fun _ _ _ h => h) (Or.inl ⟨by kernel_rfl, ?_⟩) hHeld ?_
            · intro w hSw; (try dsimp only at hSw); go_simp; (try (with_reducible rfl))
            dsimp only [Act.put]
            refine wpAnyH_take (i := 2) (oi := { dst := some 56, op := Op.move (Operand.tmp 9), type := 3, pos := "tree.go:291", after := #[], guard := none }) (v := .int .i64 (c.ad O1.root : Nat)) rfl (by kernel_rfl) (by kernel_rfl) (by kernel_rfl) (fun _ _ _ h => h) (Or.inl ⟨by kernel_rfl, ?_⟩) hHeld ?_
            · intro w hSw; (try dsimp only at hSw); go_simp; (try (with_reducible rfl))
            dsimp only [Act.put]
            refine wpAnyH_take (i := 3) (oi := { dst := some 57, op := Op.move (Operand.tmp 8), type := 4, pos := "tree.go:291", after := #[], guard := none }) (v := .bool f.d) rfl (by kernel_rfl) (by kernel_rfl) (by kernel_rfl) (fun _ _ _ h => h) (Or.inl ⟨by kernel_rfl, ?_⟩) hHeld ?_
            · intro w hSw; (try dsimp only at hSw); go_simp; (try (with_reducible rfl))
            dsimp only [Act.put]
            refine wpAnyH_ready (rs := [4]) (by kernel_rfl) (by simp) ?_
            refine AllReadyH.cons (i := 4) (o := { dst := some 58, op := Op.call { callee := Callee.value (Operand.func 53), args := #[Operand.tmp 55, Operand.tmp 56, Operand.tmp 57], argTypes := #[69, 3, 4] }, type := 3, pos := "tree.go:291", after := #[{ on := 1, ground := Ground.data }, { on := 2, ground := Ground.data }, { on := 3, ground := Ground.data }], guard := none }) rfl (fun K hK => ?_) AllReadyH.nil
            go_simp
            (go_at_call 53; (with_reducible refine (UC.out.td.childW RWF.out f.d).mono ?_); rintro e wc ⟨rfl, hbc⟩; have UC := Lib.hid (UC.out.below hbc); have C1 := Lib.hid UC.out.cell; replace hbc := Lib.hid hbc)
            (try go_wp2_with fail)
            refine hK.out _ _ UC.out.cell (fun hHeld => ?_)
            clear hK K
            refine wpAnyH_ready (rs := [5]) (by kernel_rfl) (by simp) ?_
            refine AllReadyH.cons (i := 5) (o := { dst := some 59, op := Op.call { callee := Callee.value (Operand.func 54), args := #[Operand.tmp 54, Operand.tmp 58], argTypes := #[69, 3] }, type := 4, pos := "tree.go:291", after := #[{ on := 0, ground := Ground.data }, { on := 4, ground := Ground.data }, { on := 4, ground := Ground.chain }], guard := none }) rfl (fun K hK => ?_) AllReadyH.nil
            go_simp
            (go_at_call 54; (with_reducible refine (UC.out.td.redW RWF.out f.d NR.out).mono ?_); rintro e wc ⟨rfl, hbc⟩; have UC := Lib.hid (UC.out.below hbc); have C1 := Lib.hid UC.out.cell; replace hbc := Lib.hid hbc)
            (try go_wp2_with fail)
            refine hK.out _ _ UC.out.cell (fun hHeld => ?_)
            clear hK K
            refine wpAnyH_take (i := 6) (oi := { dst := some 60, op := Op.unOp UnOp.not 4 (Operand.tmp 59), type := 4, pos := "tree.go:291", after := #[{ on := 5, ground := Ground.data }], guard := none }) (v := .bool false) rfl (by kernel_rfl) (by kernel_rfl) (by kernel_rfl) (fun _ _ _ h => h) (Or.inl ⟨by kernel_rfl, ?_⟩) hHeld ?_
            · intro w hSw; (try dsimp only at hSw); go_simp; (try (with_reducible rfl))
            dsimp only [Act.put]
            refine wpAnyH_take (i := 7) (oi := { dst := some 61, op := Op.move (Operand.tmp 60), type := 4, pos := "tree.go:291", after := #[{ on := 6, ground := Ground.data }, { on := 5, ground := Ground.chain }], guard := none }) (v := .bool false) rfl (by kernel_rfl) (by kernel_rfl) (by kernel_rfl) (fun _ _ _ h => h) (Or.inl ⟨by kernel_rfl, ?_⟩) hHeld ?_
            · intro w hSw; (try dsimp only at hSw); go_simp; (try (with_reducible rfl))
            dsimp only [Act.put]
            refine wpAnyH_take (i := 8) (oi := { dst := some 62, op := Op.load 69 (Operand.tmp 4), type := 69, pos := "tree.go:291", after := #[{ on := 7, ground := Ground.guard }], guard := some (7, true) }) (v := undef) rfl (by kernel_rfl) (by kernel_rfl) (by kernel_rfl) (fun _ _ _ h => h) (Or.inr ⟨by kernel_rfl, rfl⟩) hHeld ?_
            dsimp only [Act.put]
            refine wpAnyH_take (i := 9) (oi := { dst := some 63, op := Op.load 69 (Operand.tmp 4), type := 69, pos := "tree.go:291", after := #[{ on := 7, ground := Ground.guard }], guard := some (7, true) }) (v := undef) rfl (by kernel_rfl) (by kernel_rfl) (by kernel_rfl) (fun _ _ _ h => h) (Or.inr ⟨by kernel_rfl, rfl⟩) hHeld ?_
            dsimp only [Act.put]
            refine wpAnyH_take (i := 10) (oi := { dst := some 64, op := Op.move (Operand.tmp 9), type := 3, pos := "tree.go:291", after := #[{ on := 7, ground := Ground.guard }], guard := some (7, true) }) (v := undef) rfl (by kernel_rfl) (by kernel_rfl) (by kernel_rfl) (fun _ _ _ h => h) (Or.inr ⟨by kernel_rfl, rfl⟩) hHeld ?_
            dsimp only [Act.put]
            refine wpAnyH_take (i := 11) (oi := { dst := some 65, op := Op.move (Operand.tmp 8), type := 4, pos := "tree.go:291", after := #[{ on := 7, ground := Ground.guard }], guard := some (7, true) }) (v := undef) rfl (by kernel_rfl) (by kernel_rfl) (by kernel_rfl) (fun _ _ _ h => h) (Or.inr ⟨by kernel_rfl, rfl⟩) hHeld ?_
            dsimp only [Act.put]
            refine wpAnyH_take (i := 12) (oi := { dst := some 66, op := Op.unOp UnOp.not 4 (Operand.tmp 65), type := 4, pos := "tree.go:291", after := #[{ on := 11, ground := Ground.data }, { on := 7, ground := Ground.guard }], guard := some (7, true) }) (v := undef) rfl (by kernel_rfl) (by kernel_rfl) (by kernel_rfl) (fun _ _ _ h => h) (Or.inr ⟨by kernel_rfl, rfl⟩) hHeld ?_
            dsimp only [Act.put]
            refine wpAnyH_take (i := 13) (oi := { dst := some 67, op := Op.call { callee := Callee.value (Operand.func 53), args := #[Operand.tmp 63, Operand.tmp 64, Operand.tmp 66], argTypes := #[69, 3, 4] }, type := 3, pos := "tree.go:291", after := #[{ on := 9, ground := Ground.data }, { on := 10, ground := Ground.data }, { on := 12, ground := Ground.data }, { on := 7, ground := Ground.chain }, { on := 7, ground := Ground.guard }], guard := some (7, true) }) (v := undef) rfl (by kernel_rfl) (by kernel_rfl) (by kernel_rfl) (fun _ _ _ h => h) (Or.inr ⟨by kernel_rfl, rfl⟩) hHeld ?_
            dsimp only [Act.put]
            refine wpAnyH_take (i := 14) (oi := { dst := some 68, op := Op.call { callee := Callee.value (Operand.func 54), args := #[Operand.tmp 62, Operand.tmp 67], argTypes := #[69, 3] }, type := 4, pos := "tree.go:291", after := #[{ on := 8, ground := Ground.data }, { on := 13, ground := Ground.data }, { on := 13, ground := Ground.chain }, { on := 7, ground := Ground.guard }], guard := some (7, true) }) (v := undef) rfl (by kernel_rfl) (by kernel_rfl) (by kernel_rfl) (fun _ _ _ h => h) (Or.inr ⟨by kernel_rfl, rfl⟩) hHeld ?_
            dsimp only [Act.put]
            refine wpAnyH_take (i := 15) (oi := { dst := some 69, op := Op.unOp UnOp.not 4 (Operand.tmp 68), type := 4, pos := "tree.go:291", after := #[{ on := 14, ground := Ground.data }, { on := 7, ground := Ground.guard }], guard := some (7, true) }) (v := undef) rfl (by kernel_rfl) (by kernel_rfl) (by kernel_rfl) (fun _ _ _ h => h) (Or.inr ⟨by kernel_rfl, rfl⟩) hHeld ?_
            dsimp only [Act.put]
            refine wpAnyH_take (i := 16) (oi := { dst := some 70, op := Op.pick (Operand.tmp 61) (Operand.tmp 69) (Operand.const (Value.bool false)), type := 4, pos := "tree.go:291", after := #[{ on := 7, ground := Ground.data }, { on := 15, ground := Ground.data }], guard := none }) (v := .bool false) rfl (by kernel_rfl) (by kernel_rfl) (by kernel_rfl) (fun _ _ _ h => h) (Or.inl ⟨by kernel_rfl, ?_⟩) hHeld ?_
            · intro w hSw; (try dsimp only at hSw); go_simp; (try (with_reducible rfl))
            dsimp only [Act.put]
            refine wpAnyH_done (by kernel_rfl) ?_ _
            refine NoPanic.normal ?_
            simp only [List.setIfInBounds_toArray, List.set_cons_zero, List.set_cons_succ]
            (try clear c1)
            have c1 := C1.out
            go_wp2_with fail
            have UC := Lib.hid UC.out.drew
            go_region_held3 (fun w' => w'.cell? ⟨b, 0, none⟩ = some (.pointer (some ⟨c.p, 0, none⟩))) (first | go_keep | with_reducible exact C1.out) (first
                | (go_at_call 53; (with_reducible refine (UC.out.td.childW RWF.out (!f.d)).mono ?_); rintro e wc ⟨rfl, hbc⟩; have UC := Lib.hid (UC.out.below hbc); have C1 := Lib.hid UC.out.cell; replace hbc := Lib.hid hbc)
                | (go_at_call 54; (with_reducible refine (UC.out.td.redW RWF.out (!f.d) FRR.out).mono ?_); rintro e wc ⟨rfl, hbc⟩; have UC := Lib.hid (UC.out.below hbc); have C1 := Lib.hid UC.out.cell; replace hbc := Lib.hid hbc))
            all_goals
              (try clear c1)
              have c1 := C1.out
              go_wp2_with fail
              have UC := Lib.hid UC.out.drew
              go_region_held3 (fun w' => w'.cell? ⟨b, 0, none⟩ = some (.pointer (some ⟨c.p, 0, none⟩))) (first | go_keep | with_reducible exact C1.out) (first
                  | (go_at_call 34; (with_reducible refine (UC.out.td.colE (.inr FK.out) COL.out).mono ?_); rintro e wc ⟨rfl, hbc⟩; have UC := Lib.hid (UC.out.below hbc); have C1 := Lib.hid UC.out.cell; replace hbc := Lib.hid hbc)
                  | (go_at_call 46; (with_reducible refine (UC.out.td.paint (.inr RWF.out.w) true).mono ?_); rintro e wc ⟨⟨uv, rfl⟩, hdc, hfc⟩; have UC := Lib.hid (UC.out.fg hdc hfc); have C1 := Lib.hid UC.out.cell; replace hdc := Lib.hid hdc; replace hfc := Lib.hid hfc))
              all_goals
                (try clear c1)
                have c1 := C1.out
                go_wp2_with (first
                  | (go_at_call 46; (with_reducible refine (UC.out.td.paint0 (.inr FK.out)).mono ?_); rintro e wc ⟨⟨uv, rfl⟩, hdc, hfc⟩; have UC := Lib.hid (UC.out.fg hdc hfc); have C1 := Lib.hid UC.out.cell; (try clear c1); have c1 := C1.out; clear hdc hfc))
                have UC := Lib.hid UC.out.drew
                go_region_held3 (fun w' => w'.cell? ⟨b, 0, none⟩ = some (.pointer (some ⟨c.p, 0, none⟩))) (first | go_keep | with_reducible exact C1.out) (first
                    | (go_at_call 53; (with_reducible refine (UC.out.td.childE (.inr RWF.out.w) (!f.d) FCH.out).mono ?_); rintro e wc ⟨rfl, hbc⟩; have UC := Lib.hid (UC.out.below hbc); have C1 := Lib.hid UC.out.cell; replace hbc := Lib.hid hbc)
                    | (go_at_call 46; (with_reducible refine (UC.out.td.paint0 (RWF.out.nN (!f.d))).mono ?_); rintro e wc ⟨⟨uv, rfl⟩, hdc, hfc⟩; have UC := Lib.hid (UC.out.fg hdc hfc); have C1 := Lib.hid UC.out.cell; replace hdc := Lib.hid hdc; replace hfc := Lib.hid hfc))
                all_goals
                  (try clear c1)
                  have c1 := C1.out
                  go_wp2_with (first
                    | (go_at_call 59; (with_reducible refine (UC.out.td.rotateR RPF.out RPFE.out FK.out).mono ?_); rintro e wc ⟨⟨uv, rfl⟩, hdc, hfc⟩; have UC := Lib.hid (UC.out.fg hdc hfc); have C1 := Lib.hid UC.out.cell; (try clear c1); have c1 := C1.out; clear hdc hfc)
                    | (go_at_call 34; (with_reducible refine (UC.out.td.root).mono ?_); rintro e wc ⟨rfl, hbc⟩; have UC := Lib.hid (UC.out.below hbc); have C1 := Lib.hid UC.out.cell; (try clear c1); have c1 := C1.out; clear hbc))
                  have hi := HI.out
                  have hgk := HGK.out
                  go_roundg 1
                  case measure => omega
                  case rel => exact ⟨i + 1, _, _, f.k, rfl, rfl, by go_num, by omega, hPN, Lib.hid (.inr ⟨Nat.le_refl _, rfl, DN.out.1, DN.out.2⟩), UC⟩
          | false =>
            have NR := Lib.hid hnr
            have FRR := Lib.hid hfr
            clear hnr hfr
            have RNR := HRF.out.near HT.out BLF.out NR.out FRR.out
            obtain ⟨O2, hO2⟩ : ∃ O2, O2 = T.mk f.d false ((O1.on f.d).on f.d) (O1.on f.d).root (.mk f.d true ((O1.on f.d).on (!f.d)) O1.root (O1.on (!f.d))) := ⟨_, rfl⟩
            dsimp only at RNR
            rw [← hO2] at RNR
            obtain ⟨uN, tN, pN, rpN, eN⟩ := near_rp HRF.out.rp NR.out
            have RPN : Hid (Rp ((s2.paint (O1.on f.d).root false).paint O1.root true) uN tN O1.root pN) := Lib.hid rpN
            have RPNE := Lib.hid eN
            have O2E : Hid (O2.isE = false) := Lib.hid (by rw [hO2]; exact T.isE_mk ..)
            have O2R : Hid (O2.red = false) := Lib.hid (by rw [hO2]; exact T.red_mk ..)
            have O2F : Hid ((O2.on (!f.d)).red = true) := Lib.hid (by rw [hO2, T.on_mk']; exact T.red_mk ..)
            have WON : Hid ((((s2.paint (O1.on f.d).root false).paint O1.root true).turn O1.root (!f.d)).ch f.k (!f.d) = O2.root) := Lib.hid RNR.1.fr.2.2.1
            have ZN3 : Zn (((s2.paint (O1.on f.d).root false).paint O1.root true).turn O1.root (!f.d)) := ((ZNF.out.paint _ _).paint _ _).turn _ _
            have MEMN : ∀ j, j ∈ (plug (⟨f.d, true, f.k, O2⟩ :: (⟨f.d, false, f.o.root, f.o.on (!f.d)⟩ :: u)) T1).ns → j ∈ (plug u0 T0).ns := fun j hj => by
              rw [← delFix_ns, RNR.2.1, delFix_ns] at hj; exact hj
            have RWN : Hid (Rw c (((s2.paint (O1.on f.d).root false).paint O1.root true).turn O1.root (!f.d)) O2) := Lib.hid (RNR.1.rw_ ZN3 (fun j hj => HN.out j (MEMN j hj)) O2E.out)
            have HRN := Lib.hid RNR
            have HMN := Lib.hid MEMN
            obtain ⟨s3, hs3⟩ : ∃ s3, s3 = ((s2.paint (O1.on f.d).root false).paint O1.root true).turn O1.root (!f.d) := ⟨_, rfl⟩
            have HS3 := Lib.hid hs3
            clear hO2 rpN eN ZN3 RNR MEMN hs3
            have UC := Lib.hid UC.out.drew
            refine wp_region_noPanic ?_
            refine wp_region_held_drew (S := (fun w' => w'.cell? ⟨b, 0, none⟩ = some (.pointer (some ⟨c.p, 0, none⟩)))) (by kernel_rfl) UC.out.cell (fun hHeld => ?_)
            refine wpAnyH_take (i := 0) (oi := { dst := some 54, op := Op.load 69 (Operand.tmp 4), type := 69, pos := "tree.go:291", after := #[], guard := none }) (v := .agg #[.pointer (some ⟨c.p, 0, none⟩)]) rfl (by kernel_rfl) (by kernel_rfl) (by kernel_rfl) (fun _ _ _ h => h) (Or.inl ⟨by kernel_rfl, ?_⟩) hHeld ?_
            · intro w hSw; (try dsimp only at hSw); go_simp; (try (with_reducible rfl))
            dsimp only [Act.put]
            refine wpAnyH_take (i := 1) (oi := { dst := some 55, op := Op.load 69 (Operand.tmp 4), type := 69, pos := "tree.go:291", after := #[], guard := none }) (v := .agg #[.pointer (some ⟨c.p, 0, none⟩)]) rfl (by kernel_rfl) (by kernel_rfl) (by kernel_rfl) (fun _ _ _ h => h) (Or.inl ⟨by kernel_rfl, ?_⟩) hHeld ?_
            · intro w hSw; (try dsimp only at hSw); go_simp; (try (with_reducible rfl))
            dsimp only [Act.put]
            refine wpAnyH_take (i := 2) (oi := { dst := some 56, op := Op.move (Operand.tmp 9), type := 3, pos := "tree.go:291", after := #[], guard := none }) (v := .int .i64 (c.ad O1.root : Nat)) rfl (by kernel_rfl) (by kernel_rfl) (by kernel_rfl) (fun _ _ _ h => h) (Or.inl ⟨by kernel_rfl, ?_⟩) hHeld ?_
            · intro w hSw; (try dsimp only at hSw); go_simp; (try (with_reducible rfl))
            dsimp only [Act.put]
            refine wpAnyH_take (i := 3) (oi := { dst := some 57, op := Op.move (Operand.tmp 8), type := 4, pos := "tree.go:291", after := #[], guard := none }) (v := .bool f.d) rfl (by kernel_rfl) (by kernel_rfl) (by kernel_rfl) (fun _ _ _ h => h) (Or.inl ⟨by kernel_rfl, ?_⟩) hHeld ?_
            · intro w hSw; (try dsimp only at hSw); go_simp; (try (with_reducible rfl))
            dsimp only [Act.put]
            refine wpAnyH_ready (rs := [4]) (by kernel_rfl) (by simp) ?_
            refine AllReadyH.cons (i := 4) (o := { dst := some 58, op := Op.call { callee := Callee.value (Operand.func 53), args := #[Operand.tmp 55, Operand.tmp 56, Operand.tmp 57], argTypes := #[69, 3, 4] }, type := 3, pos := "tree.go:291", after := #[{ on := 1, ground := Ground.data }, { on := 2, ground := Ground.data }, { on := 3, ground := Ground.data }], guard := none }) rfl (fun K hK => ?_) AllReadyH.nil
            go_simp
            (go_at_call 53; (with_reducible refine (UC.out.td.childW RWF.out f.d).mono ?_); rintro e wc ⟨rfl, hbc⟩; have UC := Lib.hid (UC.out.below hbc); have C1 := Lib.hid UC.out.cell; replace hbc := Lib.hid hbc)
            (try go_wp2_with fail)
            refine hK.out _ _ UC.out.cell (fun hHeld => ?_)
            clear hK K
            refine wpAnyH_ready (rs := [5]) (by kernel_rfl) (by simp) ?_
            refine AllReadyH.cons (i := 5) (o := { dst := some 59, op := Op.call { callee := Callee.value (Operand.func 54), args := #[Operand.tmp 54, Operand.tmp 58], argTypes := #[69, 3] }, type := 4, pos := "tree.go:291", after := #[{ on := 0, ground := Ground.data }, { on := 4, ground := Ground.data }, { on := 4, ground := Ground.chain }], guard := none }) rfl (fun K hK => ?_) AllReadyH.nil
            go_simp
            (go_at_call 54; (with_reducible refine (UC.out.td.redW RWF.out f.d NR.out).mono ?_); rintro e wc ⟨rfl, hbc⟩; have UC := Lib.hid (UC.out.below hbc); have C1 := Lib.hid UC.out.cell; replace hbc := Lib.hid hbc)
            (try go_wp2_with fail)
            refine hK.out _ _ UC.out.cell (fun hHeld => ?_)
            clear hK K
            refine wpAnyH_take (i := 6) (oi := { dst := some 60, op := Op.unOp UnOp.not 4 (Operand.tmp 59), type := 4, pos := "tree.go:291", after := #[{ on := 5, ground := Ground.data }], guard := none }) (v := .bool false) rfl (by kernel_rfl) (by kernel_rfl) (by kernel_rfl) (fun _ _ _ h => h) (Or.inl ⟨by kernel_rfl, ?_⟩) hHeld ?_
            · intro w hSw; (try dsimp only at hSw); go_simp; (try (with_reducible rfl))
            dsimp only [Act.put]
            refine wpAnyH_take (i := 7) (oi := { dst := some 61, op := Op.move (Operand.tmp 60), type := 4, pos := "tree.go:291", after := #[{ on := 6, ground := Ground.data }, { on := 5, ground := Ground.chain }], guard := none }) (v := .bool false) rfl (by kernel_rfl) (by kernel_rfl) (by kernel_rfl) (fun _ _ _ h => h) (Or.inl ⟨by kernel_rfl, ?_⟩) hHeld ?_
            · intro w hSw; (try dsimp only at hSw); go_simp; (try (with_reducible rfl))
            dsimp only [Act.put]
            refine wpAnyH_take (i := 8) (oi := { dst := some 62, op := Op.load 69 (Operand.tmp 4), type := 69, pos := "tree.go:291", after := #[{ on := 7, ground := Ground.guard }], guard := some (7, true) }) (v := undef) rfl (by kernel_rfl) (by kernel_rfl) (by kernel_rfl) (fun _ _ _ h => h) (Or.inr ⟨by kernel_rfl, rfl⟩) hHeld ?_
            dsimp only [Act.put]
            refine wpAnyH_take (i := 9) (oi := { dst := some 63, op := Op.load 69 (Operand.tmp 4), type := 69, pos := "tree.go:291", after := #[{ on := 7, ground := Ground.guard }], guard := some (7, true) }) (v := undef) rfl (by kernel_rfl) (by kernel_rfl) (by kernel_rfl) (fun _ _ _ h => h) (Or.inr ⟨by kernel_rfl, rfl⟩) hHeld ?_
            dsimp only [Act.put]
            refine wpAnyH_take (i := 10) (oi := { dst := some 64, op := Op.move (Operand.tmp 9), type := 3, pos := "tree.go:291", after := #[{ on := 7, ground := Ground.guard }], guard := some (7, true) }) (v := undef) rfl (by kernel_rfl) (by kernel_rfl) (by kernel_rfl) (fun _ _ _ h => h) (Or.inr ⟨by kernel_rfl, rfl⟩) hHeld ?_
            dsimp only [Act.put]
            refine wpAnyH_take (i := 11) (oi := { dst := some 65, op := Op.move (Operand.tmp 8), type := 4, pos := "tree.go:291", after := #[{ on := 7, ground := Ground.guard }], guard := some (7, true) }) (v := undef) rfl (by kernel_rfl) (by kernel_rfl) (by kernel_rfl) (fun _ _ _ h => h) (Or.inr ⟨by kernel_rfl, rfl⟩) hHeld ?_
            dsimp only [Act.put]
            refine wpAnyH_take (i := 12) (oi := { dst := some 66, op := Op.unOp UnOp.not 4 (Operand.tmp 65), type := 4, pos := "tree.go:291", after := #[{ on := 11, ground := Ground.data }, { on := 7, ground := Ground.guard }], guard := some (7, true) }) (v := undef) rfl (by kernel_rfl) (by kernel_rfl) (by kernel_rfl) (fun _ _ _ h => h) (Or.inr ⟨by kernel_rfl, rfl⟩) hHeld ?_
            dsimp only [Act.put]
            refine wpAnyH_take (i := 13) (oi := { dst := some 67, op := Op.call { callee := Callee.value (Operand.func 53), args := #[Operand.tmp 63, Operand.tmp 64, Operand.tmp 66], argTypes := #[69, 3, 4] }, type := 3, pos := "tree.go:291", after := #[{ on := 9, ground := Ground.data }, { on := 10, ground := Ground.data }, { on := 12, ground := Ground.data }, { on := 7, ground := Ground.chain }, { on := 7, ground := Ground.guard }], guard := some (7, true) }) (v := undef) rfl (by kernel_rfl) (by kernel_rfl) (by kernel_rfl) (fun _ _ _ h => h) (Or.inr ⟨by kernel_rfl, rfl⟩) hHeld ?_
            dsimp only [Act.put]
            refine wpAnyH_take (i := 14) (oi := { dst := some 68, op := Op.call { callee := Callee.value (Operand.func 54), args := #[Operand.tmp 62, Operand.tmp 67], argTypes := #[69, 3] }, type := 4, pos := "tree.go:291", after := #[{ on := 8, ground := Ground.data }, { on := 13, ground := Ground.data }, { on := 13, ground := Ground.chain }, { on := 7, ground := Ground.guard }], guard := some (7, true) }) (v := undef) rfl (by kernel_rfl) (by kernel_rfl) (by kernel_rfl) (fun _ _ _ h => h) (Or.inr ⟨by kernel_rfl, rfl⟩) hHeld ?_
            dsimp only [Act.put]
            refine wpAnyH_take (i := 15) (oi := { dst := some 69, op := Op.unOp UnOp.not 4 (Operand.tmp 68), type := 4, pos := "tree.go:291", after := #[{ on := 14, ground := Ground.data }, { on := 7, ground := Ground.guard }], guard := some (7, true) }) (v := undef) rfl (by kernel_rfl) (by kernel_rfl) (by kernel_rfl) (fun _ _ _ h => h) (Or.inr ⟨by kernel_rfl, rfl⟩) hHeld ?_
            dsimp only [Act.put]
            refine wpAnyH_take (i := 16) (oi := { dst := some 70, op := Op.pick (Operand.tmp 61) (Operand.tmp 69) (Operand.const (Value.bool false)), type := 4, pos := "tree.go:291", after := #[{ on := 7, ground := Ground.data }, { on := 15, ground := Ground.data }], guard := none }) (v := .bool false) rfl (by kernel_rfl) (by kernel_rfl) (by kernel_rfl) (fun _ _ _ h => h) (Or.inl ⟨by kernel_rfl, ?_⟩) hHeld ?_
            · intro w hSw; (try dsimp only at hSw); go_simp; (try (with_reducible rfl))
            dsimp only [Act.put]
            refine wpAnyH_done (by kernel_rfl) ?_ _
            refine NoPanic.normal ?_
            simp only [List.setIfInBounds_toArray, List.set_cons_zero, List.set_cons_succ]
            (try clear c1)
            have c1 := C1.out
            go_wp2_with fail
            have UC := Lib.hid UC.out.drew
            go_region_held3 (fun w' => w'.cell? ⟨b, 0, none⟩ = some (.pointer (some ⟨c.p, 0, none⟩))) (first | go_keep | with_reducible exact C1.out) (first
                | (go_at_call 53; (with_reducible refine (UC.out.td.childW RWF.out (!f.d)).mono ?_); rintro e wc ⟨rfl, hbc⟩; have UC := Lib.hid (UC.out.below hbc); have C1 := Lib.hid UC.out.cell; replace hbc := Lib.hid hbc)
                | (go_at_call 54; (with_reducible refine (UC.out.td.redW RWF.out (!f.d) FRR.out).mono ?_); rintro e wc ⟨rfl, hbc⟩; have UC := Lib.hid (UC.out.below hbc); have C1 := Lib.hid UC.out.cell; replace hbc := Lib.hid hbc))
            all_goals
              (try clear c1)
              have c1 := C1.out
              go_wp2_with fail
              have UC := Lib.hid UC.out.drew
              go_region_held3 (fun w' => w'.cell? ⟨b, 0, none⟩ = some (.pointer (some ⟨c.p, 0, none⟩))) (first | go_keep | with_reducible exact C1.out) (first
                  | (go_at_call 53; (with_reducible refine (UC.out.td.childW RWF.out f.d).mono ?_); rintro e wc ⟨rfl, hbc⟩; have UC := Lib.hid (UC.out.below hbc); have C1 := Lib.hid UC.out.cell; replace hbc := Lib.hid hbc)
                  | (go_at_call 46; (with_reducible refine (UC.out.td.paint0 (RWF.out.nN f.d)).mono ?_); rintro e wc ⟨⟨uv, rfl⟩, hdc, hfc⟩; have UC := Lib.hid (UC.out.fg hdc hfc); have C1 := Lib.hid UC.out.cell; replace hdc := Lib.hid hdc; replace hfc := Lib.hid hfc))
              all_goals
                (try clear c1)
                have c1 := C1.out
                go_wp2_with (first
                  | (go_at_call 46; (with_reducible refine (UC.out.td.paint1 (.inr RWF.out.w)).mono ?_); rintro e wc ⟨⟨uv, rfl⟩, hdc, hfc⟩; have UC := Lib.hid (UC.out.fg hdc hfc); have C1 := Lib.hid UC.out.cell; (try clear c1); have c1 := C1.out; clear hdc hfc)
                  | (go_at_call 59; (with_reducible refine (UC.out.td.rotateR RPN.out RPNE.out RWF.out.w).mono ?_); rintro e wc ⟨⟨uv, rfl⟩, hdc, hfc⟩; have UC := Lib.hid (UC.out.fg hdc hfc); have C1 := Lib.hid UC.out.cell; (try clear c1); have c1 := C1.out; clear hdc hfc)
                  | (go_at_call 53; (with_reducible refine (UC.out.td.childE (.inr FK.out) (!f.d) WON.out).mono ?_); rintro e wc ⟨rfl, hbc⟩; have UC := Lib.hid (UC.out.below hbc); have C1 := Lib.hid UC.out.cell; (try clear c1); have c1 := C1.out; clear hbc))
                rw [← HS3.out] at UC HRN RWN
                have COL : Hid (s3.red f.k = true) := Lib.hid (by have := (HRN.out.1).fr.2.2.2.1; exact this)
                have FCH : Hid (((s3.paint O2.root true).paint f.k false).ch O2.root (!f.d) = (O2.on (!f.d)).root) := Lib.hid (by rw [Tr.ch_paint, Tr.ch_paint]; exact RWN.out.ch _)
                obtain ⟨uF, tF, pF, rpF, eF⟩ := far_rp (HRN.out.1) O2E.out
                have RPF : Hid (Rp (((s3.paint O2.root true).paint f.k false).paint (O2.on (!f.d)).root false) uF tF f.k pF) := Lib.hid rpF
                have RPFE := Lib.hid eF
                have DN : Hid (Rp ((((s3.paint O2.root true).paint f.k false).paint (O2.on (!f.d)).root false).turn f.k f.d) [] (delFix u0 T0) ((((s3.paint O2.root true).paint f.k false).paint (O2.on (!f.d)).root false).turn f.k f.d).top 0 ∧ Out (plug u0 T0).ns s ((((s3.paint O2.root true).paint f.k false).paint (O2.on (!f.d)).root false).turn f.k f.d)) := Lib.hid (far_done (HRN.out.1) HT.out O2E.out O2R.out O2F.out (HRN.out.2.1) (HRN.out.2.2) (HMN.out))
                clear rpF eF
                go_wp2_with fail
                have UC := Lib.hid UC.out.drew
                go_region_held3 (fun w' => w'.cell? ⟨b, 0, none⟩ = some (.pointer (some ⟨c.p, 0, none⟩))) (first | go_keep | with_reducible exact C1.out) (first
                    | (go_at_call 34; (with_reducible refine (UC.out.td.colE (.inr FK.out) COL.out).mono ?_); rintro e wc ⟨rfl, hbc⟩; have UC := Lib.hid (UC.out.below hbc); have C1 := Lib.hid UC.out.cell; replace hbc := Lib.hid hbc)
                    | (go_at_call 46; (with_reducible refine (UC.out.td.paint (.inr RWN.out.w) true).mono ?_); rintro e wc ⟨⟨uv, rfl⟩, hdc, hfc⟩; have UC := Lib.hid (UC.out.fg hdc hfc); have C1 := Lib.hid UC.out.cell; replace hdc := Lib.hid hdc; replace hfc := Lib.hid hfc))
                all_goals
                  (try clear c1)
                  have c1 := C1.out
                  go_wp2_with (first
                    | (go_at_call 46; (with_reducible refine (UC.out.td.paint0 (.inr FK.out)).mono ?_); rintro e wc ⟨⟨uv, rfl⟩, hdc, hfc⟩; have UC := Lib.hid (UC.out.fg hdc hfc); have C1 := Lib.hid UC.out.cell; (try clear c1); have c1 := C1.out; clear hdc hfc))
                  have UC := Lib.hid UC.out.drew
                  go_region_held3 (fun w' => w'.cell? ⟨b, 0, none⟩ = some (.pointer (some ⟨c.p, 0, none⟩))) (first | go_keep | with_reducible exact C1.out) (first
                      | (go_at_call 53; (with_reducible refine (UC.out.td.childE (.inr RWN.out.w) (!f.d) FCH.out).mono ?_); rintro e wc ⟨rfl, hbc⟩; have UC := Lib.hid (UC.out.below hbc); have C1 := Lib.hid UC.out.cell; replace hbc := Lib.hid hbc)
                      | (go_at_call 46; (with_reducible refine (UC.out.td.paint0 (RWN.out.nN (!f.d))).mono ?_); rintro e wc ⟨⟨uv, rfl⟩, hdc, hfc⟩; have UC := Lib.hid (UC.out.fg hdc hfc); have C1 := Lib.hid UC.out.cell; replace hdc := Lib.hid hdc; replace hfc := Lib.hid hfc))
                  all_goals
                    (try clear c1)
                    have c1 := C1.out
                    go_wp2_with (first
                      | (go_at_call 59; (with_reducible refine (UC.out.td.rotateR RPF.out RPFE.out FK.out).mono ?_); rintro e wc ⟨⟨uv, rfl⟩, hdc, hfc⟩; have UC := Lib.hid (UC.out.fg hdc hfc); have C1 := Lib.hid UC.out.cell; (try clear c1); have c1 := C1.out; clear hdc hfc)
                      | (go_at_call 34; (with_reducible refine (UC.out.td.root).mono ?_); rintro e wc ⟨rfl, hbc⟩; have UC := Lib.hid (UC.out.below hbc); have C1 := Lib.hid UC.out.cell; (try clear c1); have c1 := C1.out; clear hbc))
                    have hi := HI.out
                    have hgk := HGK.out
                    go_roundg 1
                    case measure => omega
                    case rel => exact ⟨i + 1, _, _, f.k, rfl, rfl, by go_num, by omega, hPN, Lib.hid (.inr ⟨Nat.le_refl _, rfl, DN.out.1, DN.out.2⟩), UC⟩
        | false =>
          cases hfr : (O1.on (!f.d)).red with
          | true =>
            have NR := Lib.hid hnr
            have FRR := Lib.hid hfr
            clear hnr hfr
            have COL : Hid (s2.red f.k = true) := Lib.hid (by have := (HRF.out.rp).fr.2.2.2.1; exact this)
            have FCH : Hid (((s2.paint O1.root true).paint f.k false).ch O1.root (!f.d) = (O1.on (!f.d)).root) := Lib.hid (by rw [Tr.ch_paint, Tr.ch_paint]; exact RWF.out.ch _)
            obtain ⟨uF, tF, pF, rpF, eF⟩ := far_rp (HRF.out.rp) OEF.out
            have RPF : Hid (Rp (((s2.paint O1.root true).paint f.k false).paint (O1.on (!f.d)).root false) uF tF f.k pF) := Lib.hid rpF
            have RPFE := Lib.hid eF
            have DN : Hid (Rp ((((s2.paint O1.root true).paint f.k false).paint (O1.on (!f.d)).root false).turn f.k f.d) [] (delFix u0 T0) ((((s2.paint O1.root true).paint f.k false).paint (O1.on (!f.d)).root false).turn f.k f.d).top 0 ∧ Out (plug u0 T0).ns s ((((s2.paint O1.root true).paint f.k false).paint (O1.on (!f.d)).root false).turn f.k f.d)) := Lib.hid (far_done (HRF.out.rp) HT.out OEF.out BLF.out FRR.out (HRF.out.fx) (HRF.out.out) (HRF.out.mem))
            clear rpF eF
            have UC := Lib.hid UC.out.drew
            go_region_held3 (fun w' => w'.cell? ⟨b, 0, none⟩ = some (.pointer (some ⟨c.p, 0, none⟩))) (first | go_keep | with_reducible exact C1.out) (first
                | (go_at_call 53; (with_reducible refine (UC.out.td.childW RWF.out f.d).mono ?_); rintro e wc ⟨rfl, hbc⟩; have UC := Lib.hid (UC.out.below hbc); have C1 := Lib.hid UC.out.cell; replace hbc := Lib.hid hbc)
                | (go_at_call 54; (with_reducible refine (UC.out.td.redW RWF.out f.d NR.out).mono ?_); rintro e wc ⟨rfl, hbc⟩; have UC := Lib.hid (UC.out.below hbc); have C1 := Lib.hid UC.out.cell; replace hbc := Lib.hid hbc)
                | (go_at_call 53; (with_reducible refine (UC.out.td.childW RWF.out (!f.d)).mono ?_); rintro e wc ⟨rfl, hbc⟩; have UC := Lib.hid (UC.out.below hbc); have C1 := Lib.hid UC.out.cell; replace hbc := Lib.hid hbc)
                | (go_at_call 54; (with_reducible refine (UC.out.td.redW RWF.out (!f.d) FRR.out).mono ?_); rintro e wc ⟨rfl, hbc⟩; have UC := Lib.hid (UC.out.below hbc); have C1 := Lib.hid UC.out.cell; replace hbc := Lib.hid hbc))
            all_goals
              (try clear c1)
              have c1 := C1.out
              go_wp2_with fail
              have UC := Lib.hid UC.out.drew
              go_region_held3 (fun w' => w'.cell? ⟨b, 0, none⟩ = some (.pointer (some ⟨c.p, 0, none⟩))) (first | go_keep | with_reducible exact C1.out) (first
                  | (go_at_call 53; (with_reducible refine (UC.out.td.childW RWF.out (!f.d)).mono ?_); rintro e wc ⟨rfl, hbc⟩; have UC := Lib.hid (UC.out.below hbc); have C1 := Lib.hid UC.out.cell; replace hbc := Lib.hid hbc)
                  | (go_at_call 54; (with_reducible refine (UC.out.td.redW RWF.out (!f.d) FRR.out).mono ?_); rintro e wc ⟨rfl, hbc⟩; have UC := Lib.hid (UC.out.below hbc); have C1 := Lib.hid UC.out.cell; replace hbc := Lib.hid hbc))
              all_goals
                (try clear c1)
                have c1 := C1.out
                go_wp2_with fail
                have UC := Lib.hid UC.out.drew
                go_region_held3 (fun w' => w'.cell? ⟨b, 0, none⟩ = some (.pointer (some ⟨c.p, 0, none⟩))) (first | go_keep | with_reducible exact C1.out) (first
                    | (go_at_call 34; (with_reducible refine (UC.out.td.colE (.inr FK.out) COL.out).mono ?_); rintro e wc ⟨rfl, hbc⟩; have UC := Lib.hid (UC.out.below hbc); have C1 := Lib.hid UC.out.cell; replace hbc := Lib.hid hbc)
                    | (go_at_call 46; (with_reducible refine (UC.out.td.paint (.inr RWF.out.w) true).mono ?_); rintro e wc ⟨⟨uv, rfl⟩, hdc, hfc⟩; have UC := Lib.hid (UC.out.fg hdc hfc); have C1 := Lib.hid UC.out.cell; replace hdc := Lib.hid hdc; replace hfc := Lib.hid hfc))
                all_goals
                  (try clear c1)
                  have c1 := C1.out
                  go_wp2_with (first
                    | (go_at_call 46; (with_reducible refine (UC.out.td.paint0 (.inr FK.out)).mono ?_); rintro e wc ⟨⟨uv, rfl⟩, hdc, hfc⟩; have UC := Lib.hid (UC.out.fg hdc hfc); have C1 := Lib.hid UC.out.cell; (try clear c1); have c1 := C1.out; clear hdc hfc))
                  have UC := Lib.hid UC.out.drew
                  go_region_held3 (fun w' => w'.cell? ⟨b, 0, none⟩ = some (.pointer (some ⟨c.p, 0, none⟩))) (first | go_keep | with_reducible exact C1.out) (first
                      | (go_at_call 53; (with_reducible refine (UC.out.td.childE (.inr RWF.out.w) (!f.d) FCH.out).mono ?_); rintro e wc ⟨rfl, hbc⟩; have UC := Lib.hid (UC.out.below hbc); have C1 := Lib.hid UC.out.cell; replace hbc := Lib.hid hbc)
                      | (go_at_call 46; (with_reducible refine (UC.out.td.paint0 (RWF.out.nN (!f.d))).mono ?_); rintro e wc ⟨⟨uv, rfl⟩, hdc, hfc⟩; have UC := Lib.hid (UC.out.fg hdc hfc); have C1 := Lib.hid UC.out.cell; replace hdc := Lib.hid hdc; replace hfc := Lib.hid hfc))
                  all_goals
                    (try clear c1)
                    have c1 := C1.out
                    go_wp2_with (first
                      | (go_at_call 59; (with_reducible refine (UC.out.td.rotateR RPF.out RPFE.out FK.out).mono ?_); rintro e wc ⟨⟨uv, rfl⟩, hdc, hfc⟩; have UC := Lib.hid (UC.out.fg hdc hfc); have C1 := Lib.hid UC.out.cell; (try clear c1); have c1 := C1.out; clear hdc hfc)
                      | (go_at_call 34; (with_reducible refine (UC.out.td.root).mono ?_); rintro e wc ⟨rfl, hbc⟩; have UC := Lib.hid (UC.out.below hbc); have C1 := Lib.hid UC.out.cell; (try clear c1); have c1 := C1.out; clear hbc))
                    have hi := HI.out
                    have hgk := HGK.out
                    go_roundg 1
                    case measure => omega
                    case rel => exact ⟨i + 1, _, _, f.k, rfl, rfl, by go_num, by omega, hPN, Lib.hid (.inr ⟨Nat.le_refl _, rfl, DN.out.1, DN.out.2⟩), UC⟩
          | false =>
            have NR := Lib.hid hnr
            have FRR := Lib.hid hfr
            clear hnr hfr
            have RD := Lib.hid (HRF.out.two HT.out BLF.out NR.out FRR.out)
            have EPP : Hid ((s2.paint O1.root true).par f.k = s2.par f.k) := Lib.hid (Tr.par_paint ..)
            have UC := Lib.hid UC.out.drew
            go_region_held3 (fun w' => w'.cell? ⟨b, 0, none⟩ = some (.pointer (some ⟨c.p, 0, none⟩))) (first | go_keep | with_reducible exact C1.out) (first
                | (go_at_call 53; (with_reducible refine (UC.out.td.childW RWF.out f.d).mono ?_); rintro e wc ⟨rfl, hbc⟩; have UC := Lib.hid (UC.out.below hbc); have C1 := Lib.hid UC.out.cell; replace hbc := Lib.hid hbc)
                | (go_at_call 54; (with_reducible refine (UC.out.td.redW RWF.out f.d NR.out).mono ?_); rintro e wc ⟨rfl, hbc⟩; have UC := Lib.hid (UC.out.below hbc); have C1 := Lib.hid UC.out.cell; replace hbc := Lib.hid hbc)
                | (go_at_call 53; (with_reducible refine (UC.out.td.childW RWF.out (!f.d)).mono ?_); rintro e wc ⟨rfl, hbc⟩; have UC := Lib.hid (UC.out.below hbc); have C1 := Lib.hid UC.out.cell; replace hbc := Lib.hid hbc)
                | (go_at_call 54; (with_reducible refine (UC.out.td.redW RWF.out (!f.d) FRR.out).mono ?_); rintro e wc ⟨rfl, hbc⟩; have UC := Lib.hid (UC.out.below hbc); have C1 := Lib.hid UC.out.cell; replace hbc := Lib.hid hbc))
            all_goals
              (try clear c1)
              have c1 := C1.out
              have PN2 : Hid (s2.par f.k = 0 ∨ c.N (s2.par f.k)) := Lib.hid (UC.out.td.parN (.inr FK.out))
              go_wp2_with (first
                | (go_at_call 46; (with_reducible refine (UC.out.td.paint1 (.inr RWF.out.w)).mono ?_); rintro e wc ⟨⟨uv, rfl⟩, hdc, hfc⟩; have UC := Lib.hid (UC.out.fg hdc hfc); have C1 := Lib.hid UC.out.cell; (try clear c1); have c1 := C1.out; clear hdc hfc)
                | (go_at_call 34; (with_reducible refine (UC.out.td.parE (.inr FK.out) EPP.out).mono ?_); rintro e wc ⟨rfl, hbc⟩; have UC := Lib.hid (UC.out.below hbc); have C1 := Lib.hid UC.out.cell; (try clear c1); have c1 := C1.out; clear hbc))
              have hi := HI.out
              have hgk := HGK.out
              go_roundg 1
              case measure => omega
              case rel => exact ⟨i + 1, _, f.k, _, rfl, rfl, by go_num, by omega, PN2, Lib.hid (.inl ⟨_, _, .inl ⟨Nat.le_refl _, T.red_mk ..⟩, RD.out⟩), UC⟩
end
end Go.Proofs.YtiacclmapicmdaaDoor
