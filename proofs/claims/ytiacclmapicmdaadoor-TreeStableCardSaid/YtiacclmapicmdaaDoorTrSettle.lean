/- The contract of tree's settleRed over a tree's links. Conditions: the table of widths lies in its block; the arena's blocks are known; its bytes are a tree's links. -/
import Derived.Test.YtiacclmapicmdaaDoorTrStep
namespace Go.Proofs.YtiacclmapicmdaaDoor
open Go.RowKit

section
variable {c : Cx} {w w' : World} {s : Tr} {I : Nat → Bool}
theorem not_side {a b : Bool} (h : ¬ a = b) : a = !b := by cases a <;> cases b <;> first | rfl | exact absurd rfl h
set_option maxRecDepth 100000 in
set_option maxHeartbeats 4000000 in
theorem Td.settleRed (t : Td c w s I) {u0 : List Fr} {T0 : T} {x0 p0 : Nat} (r : Ra u0 T0 s s u0 T0 x0 p0) (hN : ∀ j, j ∈ (plug u0 T0).ns → c.N j) (hlen : u0.length + 1 < c.n) :
    Calls Tryd.prog 47 #[lv c.p, .int .i64 (c.rt : Nat), .int .i64 (c.ad x0 : Nat)] w fun e w' => (∃ u, e = .returned u) ∧ ∃ s', Td c w' s' I ∧ Rp s' [] ((addFix u0 T0).col false) s'.top 0 ∧ Out (plug u0 T0).ns s s' ∧ Fg c.g w w' := by
  have hn := t.pl.big
  have h0 := Lib.hid (red_isE r.red)
  obtain ⟨w1, hw1⟩ : ∃ w1, w1 = w.alloc (.cells #[.pointer (some ⟨c.p, 0, none⟩)] 69) := ⟨_, rfl⟩
  obtain ⟨b, hbe⟩ : ∃ b, b = w.heap.size := ⟨_, rfl⟩
  have UC : Hid (Tb c w w1 b s I) := Lib.hid (by rw [hw1, hbe]; exact Tb.new t)
  have HW := Lib.hid hw1
  have HBE := Lib.hid hbe
  clear hw1 hbe
  have RA := Lib.hid r
  have HN := Lib.hid hN
  clear t r hN
  go_enter Tryd.func47, Tryd.ntmps47
  go_wp2_with fail
  rw [← HBE.out, ← HW.out]
  have C1 := Lib.hid UC.out.cell
  have c1 := C1.out
  go_wp2_with (go_at_call 57; (with_reducible refine UC.out.td.len.mono ?_); rintro e wc ⟨rfl, rfl⟩)
  go_loopg [2, 13] u0.length (fun gk v2 v13 wr => ∃ (i : Nat) (s1 : Tr) (u : List Fr) (T1 : T) (x p : Nat), v2 = .int .i64 (c.ad x : Nat) ∧ v13 = .int .i64 (i : Nat) ∧ gk = u.length ∧ i + u.length ≤ u0.length ∧ Hid (Ra u0 T0 s s1 u T1 x p) ∧ Hid (Tb c w wr b s1 I))
  case atStart => exact ⟨0, s, u0, T0, x0, p0, rfl, rfl, rfl, by omega, RA, UC⟩
  case round =>
    obtain ⟨i, s1, u, T1, x, p, rfl, rfl, hgk, hi, hR, hU⟩ := hrel
    have UC := hU
    have C1 := Lib.hid UC.out.cell
    clear c1
    have c1 := C1.out
    have hlt : (i : Int) < c.n := by omega
    have hNN : ∀ j, j ∈ (plug u T1).ns → c.N j := fun j hj => HN.out j (hR.out.mem h0.out j hj)
    have htE := red_isE hR.out.red
    have hxm : x ∈ T1.ns := by
      rcases at_root hR.out.rp.at_ with ⟨e, _⟩ | ⟨hm, _⟩
      · rw [e] at htE; cases htE
      · exact hm
    have HX : Hid (c.N x) := Lib.hid (hNN x (mem_plug.2 (.inl hxm)))
    have hcase : (∃ q, s1.par x = q ∧ (q = 0 ∨ c.N q) ∧ s1.red q = false ∧ (hc u = false ∨ u = [])) ∨ (∃ f g u', u = f :: g :: u' ∧ f.c = true ∧ g.c = false) := by
      cases u with
      | nil =>
        left
        refine ⟨0, ?_, .inl rfl, hU.out.td.zn.red, .inr rfl⟩
        rw [(hR.out.rp.kid htE).2.2.1]
        exact hR.out.rp.top.1
      | cons f u' =>
        have rn := hR.out.rp.rn hU.out.td.zn hNN
        cases hfc : f.c with
        | false => exact .inl ⟨f.k, rn.par htE, .inr rn.kN, by rw [rn.red]; exact hfc, .inl hfc⟩
        | true =>
          obtain ⟨_, g, u2, rfl, hg⟩ := hR.out.up hfc
          exact .inr ⟨f, g, u2, rfl, hfc, hg⟩
    rcases hcase with ⟨q, q1, q2, q3, q4⟩ | ⟨f, g, u', rfl, hfc, hgc⟩
    · have Q1 := Lib.hid q1
      have Q2 := Lib.hid q2
      have Q3 := Lib.hid q3
      have QT := Lib.hid hU.out.td.topN
      have QS := Lib.hid (hR.out.stop h0.out q4)
      clear q1 q2 q3 q4 hNN htE hxm hi hgk
      go_wp2_with (first
        | (go_at_call 34; (with_reducible refine (UC.out.td.parE (.inr HX.out) Q1.out).mono ?_); rintro e wc ⟨rfl, hbc⟩; have UC := Lib.hid (UC.out.below hbc); have C1 := Lib.hid UC.out.cell; (try clear c1); have c1 := C1.out; clear hbc)
        | (go_at_call 54; (with_reducible refine (UC.out.td.redE Q2.out Q3.out).mono ?_); rintro e wc ⟨rfl, hbc⟩; have UC := Lib.hid (UC.out.below hbc); have C1 := Lib.hid UC.out.cell; (try clear c1); have c1 := C1.out; clear hbc))
      have UC := Lib.hid UC.out.drew
      go_region_held3 (fun w' => w'.cell? ⟨b, 0, none⟩ = some (.pointer (some ⟨c.p, 0, none⟩))) (first | go_keep | with_reducible exact C1.out) (first
          | (go_at_call 34; (with_reducible refine (UC.out.td.root).mono ?_); rintro e wc ⟨rfl, hbc⟩; have UC := Lib.hid (UC.out.below hbc); have C1 := Lib.hid UC.out.cell; replace hbc := Lib.hid hbc)
          | (go_at_call 46; (with_reducible refine (UC.out.td.paint0 QT.out).mono ?_); rintro e wc ⟨⟨uv, rfl⟩, hdc, hfc⟩; have UC := Lib.hid (UC.out.fg hdc hfc); have C1 := Lib.hid UC.out.cell; replace hdc := Lib.hid hdc; replace hfc := Lib.hid hfc))
      all_goals
        go_end0
        exact ⟨⟨_, rfl⟩, s1.paint s1.top false, UC.out.td, by rw [Tr.top_paint]; exact QS.out.1, QS.out.2, UC.out.fr⟩
    · have rf := hR.out.rp.rn hU.out.td.zn hNN
      have rg := hR.out.rp.out.rn hU.out.td.zn hNN
      have FK := Lib.hid rf.kN
      have GK := Lib.hid rg.kN
      have GO := Lib.hid rg.oN
      have FO := Lib.hid rf.oN
      have EP := Lib.hid (rf.par htE)
      have EG := Lib.hid (rg.par (T.isE_mk ..))
      have ER : Hid (s1.red f.k = true) := Lib.hid (by rw [rf.red]; exact hfc)
      have EU := Lib.hid rg.ro
      have ngo : (((c.ad g.o.root : Nat) : Int) == (c.ad f.k : Nat)) = false := beq_eq_false_iff_ne.2 fun e => by
        have := (hU.out.td.eqi rg.oN (.inr rf.kN)).1 e
        rcases rg.ne with h | ⟨h, _⟩
        · exact h this.symm
        · rw [T.isE_mk] at h; cases h
      have nxo : ¬ ((c.ad f.o.root : Nat) : Int) = (c.ad x : Nat) := fun e => by
        have := (hU.out.td.eqi rf.oN rf.xN).1 e
        rcases rf.ne with h | ⟨h, _⟩
        · exact h this.symm
        · rw [htE] at h; cases h
      have NGO := Lib.hid ngo
      have NXO := Lib.hid nxo
      have RFC := Lib.hid rf.ch
      have RFO := Lib.hid rf.cho
      have RGC := Lib.hid rg.ch
      have RGO := Lib.hid rg.cho
      have HF := Lib.hid hfc
      have HG := Lib.hid hgc
      simp only [List.length_cons] at hi hgk
      have HI := Lib.hid hi
      have HGK := Lib.hid hgk
      clear rf rg hNN htE hxm ngo nxo hfc hgc hi hgk
      cases hgd : g.d with
      | false =>
        have GC : Hid (s1.ch g.k false = f.k) := Lib.hid (by have := RGC.out; rwa [hgd] at this)
        have GU : Hid (s1.ch g.k true = g.o.root) := Lib.hid (by have := RGO.out; rwa [hgd] at this)
        have hng : (!g.d) = true := by rw [hgd]; rfl
        have HGD := Lib.hid hgd
        have HNG := Lib.hid hng
        clear hgd hng RGC RGO
        cases hgo : g.o.red with
        | true =>
          have EU2 : Hid (s1.red g.o.root = true) := Lib.hid (by rw [EU.out]; exact hgo)
          have RA2 := Lib.hid (hR.out.redded h0.out HF.out HG.out hgo)
          have ngo := NGO.out
          clear hgo
          go_wp2_with (first
            | (go_at_call 34; (with_reducible refine (UC.out.td.parE (.inr HX.out) EP.out).mono ?_); rintro e wc ⟨rfl, hbc⟩; have UC := Lib.hid (UC.out.below hbc); have C1 := Lib.hid UC.out.cell; (try clear c1); have c1 := C1.out; clear hbc)
            | (go_at_call 54; (with_reducible refine (UC.out.td.redE (.inr FK.out) ER.out).mono ?_); rintro e wc ⟨rfl, hbc⟩; have UC := Lib.hid (UC.out.below hbc); have C1 := Lib.hid UC.out.cell; (try clear c1); have c1 := C1.out; clear hbc)
            | (go_at_call 34; (with_reducible refine (UC.out.td.parE (.inr FK.out) EG.out).mono ?_); rintro e wc ⟨rfl, hbc⟩; have UC := Lib.hid (UC.out.below hbc); have C1 := Lib.hid UC.out.cell; (try clear c1); have c1 := C1.out; clear hbc)
            | (go_at_call 53; (with_reducible refine (UC.out.td.childE (.inr GK.out) false GC.out).mono ?_); rintro e wc ⟨rfl, hbc⟩; have UC := Lib.hid (UC.out.below hbc); have C1 := Lib.hid UC.out.cell; (try clear c1); have c1 := C1.out; clear hbc)
            | (go_at_call 53; (with_reducible refine (UC.out.td.childE (.inr GK.out) true GU.out).mono ?_); rintro e wc ⟨rfl, hbc⟩; have UC := Lib.hid (UC.out.below hbc); have C1 := Lib.hid UC.out.cell; (try clear c1); have c1 := C1.out; clear hbc)
            | (go_at_call 54; (with_reducible refine (UC.out.td.redE GO.out EU2.out).mono ?_); rintro e wc ⟨rfl, hbc⟩; have UC := Lib.hid (UC.out.below hbc); have C1 := Lib.hid UC.out.cell; (try clear c1); have c1 := C1.out; clear hbc)
            | (go_at_call 46; (with_reducible refine (UC.out.td.paint0 (.inr FK.out)).mono ?_); rintro e wc ⟨⟨uv, rfl⟩, hdc, hfc⟩; have UC := Lib.hid (UC.out.fg hdc hfc); have C1 := Lib.hid UC.out.cell; (try clear c1); have c1 := C1.out; clear hdc hfc)
            | (go_at_call 46; (with_reducible refine (UC.out.td.paint0 GO.out).mono ?_); rintro e wc ⟨⟨uv, rfl⟩, hdc, hfc⟩; have UC := Lib.hid (UC.out.fg hdc hfc); have C1 := Lib.hid UC.out.cell; (try clear c1); have c1 := C1.out; clear hdc hfc)
            | (go_at_call 46; (with_reducible refine (UC.out.td.paint1 (.inr GK.out)).mono ?_); rintro e wc ⟨⟨uv, rfl⟩, hdc, hfc⟩; have UC := Lib.hid (UC.out.fg hdc hfc); have C1 := Lib.hid UC.out.cell; (try clear c1); have c1 := C1.out; clear hdc hfc))
          have hi := HI.out
          have hgk := HGK.out
          go_roundg u'.length
          case measure => omega
          case rel => exact ⟨i + 1, _, u', _, g.k, _, rfl, by go_num, rfl, by omega, RA2, UC⟩
        | false =>
          have EU2 : Hid (s1.red g.o.root = false) := Lib.hid (by rw [EU.out]; exact hgo)
          by_cases hd : f.d = g.d
          · have FX : Hid (s1.ch f.k false = x) := Lib.hid (by have := RFC.out; rwa [hd, HGD.out] at this)
            have ra := hR.out.outer h0.out HF.out HG.out hgo hd
            rw [HNG.out] at ra
            have RA2 := Lib.hid ra
            have RP2 : Hid (Rp ((s1.paint f.k false).paint g.k true) u' (.mk g.d true (.mk f.d false T1 f.k f.o) g.k g.o) g.k (((s1.paint f.k false).paint g.k true).par g.k)) := Lib.hid (((hR.out.rp.colUp false).out.colUp true).out)
            have ngo := NGO.out
            clear hgo hd ra
            go_wp2_with (first
              | (go_at_call 34; (with_reducible refine (UC.out.td.parE (.inr HX.out) EP.out).mono ?_); rintro e wc ⟨rfl, hbc⟩; have UC := Lib.hid (UC.out.below hbc); have C1 := Lib.hid UC.out.cell; (try clear c1); have c1 := C1.out; clear hbc)
              | (go_at_call 54; (with_reducible refine (UC.out.td.redE (.inr FK.out) ER.out).mono ?_); rintro e wc ⟨rfl, hbc⟩; have UC := Lib.hid (UC.out.below hbc); have C1 := Lib.hid UC.out.cell; (try clear c1); have c1 := C1.out; clear hbc)
              | (go_at_call 34; (with_reducible refine (UC.out.td.parE (.inr FK.out) EG.out).mono ?_); rintro e wc ⟨rfl, hbc⟩; have UC := Lib.hid (UC.out.below hbc); have C1 := Lib.hid UC.out.cell; (try clear c1); have c1 := C1.out; clear hbc)
              | (go_at_call 53; (with_reducible refine (UC.out.td.childE (.inr GK.out) false GC.out).mono ?_); rintro e wc ⟨rfl, hbc⟩; have UC := Lib.hid (UC.out.below hbc); have C1 := Lib.hid UC.out.cell; (try clear c1); have c1 := C1.out; clear hbc)
              | (go_at_call 53; (with_reducible refine (UC.out.td.childE (.inr GK.out) true GU.out).mono ?_); rintro e wc ⟨rfl, hbc⟩; have UC := Lib.hid (UC.out.below hbc); have C1 := Lib.hid UC.out.cell; (try clear c1); have c1 := C1.out; clear hbc)
              | (go_at_call 54; (with_reducible refine (UC.out.td.redE GO.out EU2.out).mono ?_); rintro e wc ⟨rfl, hbc⟩; have UC := Lib.hid (UC.out.below hbc); have C1 := Lib.hid UC.out.cell; (try clear c1); have c1 := C1.out; clear hbc)
              | (go_at_call 53; (with_reducible refine (UC.out.td.childE (.inr FK.out) false FX.out).mono ?_); rintro e wc ⟨rfl, hbc⟩; have UC := Lib.hid (UC.out.below hbc); have C1 := Lib.hid UC.out.cell; (try clear c1); have c1 := C1.out; clear hbc)
              | (go_at_call 46; (with_reducible refine (UC.out.td.paint0 (.inr FK.out)).mono ?_); rintro e wc ⟨⟨uv, rfl⟩, hdc, hfc⟩; have UC := Lib.hid (UC.out.fg hdc hfc); have C1 := Lib.hid UC.out.cell; (try clear c1); have c1 := C1.out; clear hdc hfc)
              | (go_at_call 46; (with_reducible refine (UC.out.td.paint1 (.inr GK.out)).mono ?_); rintro e wc ⟨⟨uv, rfl⟩, hdc, hfc⟩; have UC := Lib.hid (UC.out.fg hdc hfc); have C1 := Lib.hid UC.out.cell; (try clear c1); have c1 := C1.out; clear hdc hfc)
              | (go_at_call 59; (with_reducible refine (UC.out.td.rotateR RP2.out (T.isE_mk ..) GK.out).mono ?_); rintro e wc ⟨⟨uv, rfl⟩, hdc, hfc⟩; have UC := Lib.hid (UC.out.fg hdc hfc); have C1 := Lib.hid UC.out.cell; (try clear c1); have c1 := C1.out; clear hdc hfc))
            have hi := HI.out
            have hgk := HGK.out
            go_roundg (u'.length + 1)
            case measure => omega
            case rel => exact ⟨i + 1, _, _, T1, x, f.k, rfl, by go_num, rfl, by simp only [List.length_cons]; omega, RA2, UC⟩
          · have hd2 : f.d = !g.d := not_side hd
            have FX : Hid (s1.ch f.k false = f.o.root) := Lib.hid (by have := RFO.out; rwa [hd2, Bool.not_not, HGD.out] at this)
            have ra1 := hR.out.inner h0.out HF.out HG.out hgo hd2
            have ra := ra1.outer h0.out rfl HG.out hgo rfl
            have rp2 := ((ra1.rp.colUp false).out.colUp true).out
            rw [HNG.out] at ra
            have e2 : s1.turn f.k g.d = s1.turn f.k false := by rw [HGD.out]
            rw [e2] at ra rp2
            have RA2 := Lib.hid ra
            have RP2 := Lib.hid rp2
            have RP1 := Lib.hid hR.out.rp.out
            have ngo := NGO.out
            have nxo := NXO.out
            clear hgo hd hd2 ra1 ra rp2 e2
            go_wp2_with (first
              | (go_at_call 34; (with_reducible refine (UC.out.td.parE (.inr HX.out) EP.out).mono ?_); rintro e wc ⟨rfl, hbc⟩; have UC := Lib.hid (UC.out.below hbc); have C1 := Lib.hid UC.out.cell; (try clear c1); have c1 := C1.out; clear hbc)
              | (go_at_call 54; (with_reducible refine (UC.out.td.redE (.inr FK.out) ER.out).mono ?_); rintro e wc ⟨rfl, hbc⟩; have UC := Lib.hid (UC.out.below hbc); have C1 := Lib.hid UC.out.cell; (try clear c1); have c1 := C1.out; clear hbc)
              | (go_at_call 34; (with_reducible refine (UC.out.td.parE (.inr FK.out) EG.out).mono ?_); rintro e wc ⟨rfl, hbc⟩; have UC := Lib.hid (UC.out.below hbc); have C1 := Lib.hid UC.out.cell; (try clear c1); have c1 := C1.out; clear hbc)
              | (go_at_call 53; (with_reducible refine (UC.out.td.childE (.inr GK.out) false GC.out).mono ?_); rintro e wc ⟨rfl, hbc⟩; have UC := Lib.hid (UC.out.below hbc); have C1 := Lib.hid UC.out.cell; (try clear c1); have c1 := C1.out; clear hbc)
              | (go_at_call 53; (with_reducible refine (UC.out.td.childE (.inr GK.out) true GU.out).mono ?_); rintro e wc ⟨rfl, hbc⟩; have UC := Lib.hid (UC.out.below hbc); have C1 := Lib.hid UC.out.cell; (try clear c1); have c1 := C1.out; clear hbc)
              | (go_at_call 54; (with_reducible refine (UC.out.td.redE GO.out EU2.out).mono ?_); rintro e wc ⟨rfl, hbc⟩; have UC := Lib.hid (UC.out.below hbc); have C1 := Lib.hid UC.out.cell; (try clear c1); have c1 := C1.out; clear hbc)
              | (go_at_call 53; (with_reducible refine (UC.out.td.childE (.inr FK.out) false FX.out).mono ?_); rintro e wc ⟨rfl, hbc⟩; have UC := Lib.hid (UC.out.below hbc); have C1 := Lib.hid UC.out.cell; (try clear c1); have c1 := C1.out; clear hbc)
              | (go_at_call 59; (with_reducible refine (UC.out.td.rotateR RP1.out (T.isE_mk ..) FK.out).mono ?_); rintro e wc ⟨⟨uv, rfl⟩, hdc, hfc⟩; have UC := Lib.hid (UC.out.fg hdc hfc); have C1 := Lib.hid UC.out.cell; (try clear c1); have c1 := C1.out; clear hdc hfc)
              | (go_at_call 46; (with_reducible refine (UC.out.td.paint0 (.inr HX.out)).mono ?_); rintro e wc ⟨⟨uv, rfl⟩, hdc, hfc⟩; have UC := Lib.hid (UC.out.fg hdc hfc); have C1 := Lib.hid UC.out.cell; (try clear c1); have c1 := C1.out; clear hdc hfc)
              | (go_at_call 46; (with_reducible refine (UC.out.td.paint1 (.inr GK.out)).mono ?_); rintro e wc ⟨⟨uv, rfl⟩, hdc, hfc⟩; have UC := Lib.hid (UC.out.fg hdc hfc); have C1 := Lib.hid UC.out.cell; (try clear c1); have c1 := C1.out; clear hdc hfc)
              | (go_at_call 59; (with_reducible refine (UC.out.td.rotateR RP2.out (T.isE_mk ..) GK.out).mono ?_); rintro e wc ⟨⟨uv, rfl⟩, hdc, hfc⟩; have UC := Lib.hid (UC.out.fg hdc hfc); have C1 := Lib.hid UC.out.cell; (try clear c1); have c1 := C1.out; clear hdc hfc))
            have hi := HI.out
            have hgk := HGK.out
            go_roundg (u'.length + 1)
            case measure => omega
            case rel => exact ⟨i + 1, _, _, _, f.k, x, rfl, by go_num, rfl, by simp only [List.length_cons]; omega, RA2, UC⟩
      | true =>
        have GC : Hid (s1.ch g.k true = f.k) := Lib.hid (by have := RGC.out; rwa [hgd] at this)
        have GU : Hid (s1.ch g.k false = g.o.root) := Lib.hid (by have := RGO.out; rwa [hgd] at this)
        have hng : (!g.d) = false := by rw [hgd]; rfl
        have HGD := Lib.hid hgd
        have HNG := Lib.hid hng
        clear hgd hng RGC RGO
        cases hgo : g.o.red with
        | true =>
          have EU2 : Hid (s1.red g.o.root = true) := Lib.hid (by rw [EU.out]; exact hgo)
          have RA2 := Lib.hid (hR.out.redded h0.out HF.out HG.out hgo)
          have ngo := NGO.out
          clear hgo
          go_wp2_with (first
            | (go_at_call 34; (with_reducible refine (UC.out.td.parE (.inr HX.out) EP.out).mono ?_); rintro e wc ⟨rfl, hbc⟩; have UC := Lib.hid (UC.out.below hbc); have C1 := Lib.hid UC.out.cell; (try clear c1); have c1 := C1.out; clear hbc)
            | (go_at_call 54; (with_reducible refine (UC.out.td.redE (.inr FK.out) ER.out).mono ?_); rintro e wc ⟨rfl, hbc⟩; have UC := Lib.hid (UC.out.below hbc); have C1 := Lib.hid UC.out.cell; (try clear c1); have c1 := C1.out; clear hbc)
            | (go_at_call 34; (with_reducible refine (UC.out.td.parE (.inr FK.out) EG.out).mono ?_); rintro e wc ⟨rfl, hbc⟩; have UC := Lib.hid (UC.out.below hbc); have C1 := Lib.hid UC.out.cell; (try clear c1); have c1 := C1.out; clear hbc)
            | (go_at_call 53; (with_reducible refine (UC.out.td.childE (.inr GK.out) true GC.out).mono ?_); rintro e wc ⟨rfl, hbc⟩; have UC := Lib.hid (UC.out.below hbc); have C1 := Lib.hid UC.out.cell; (try clear c1); have c1 := C1.out; clear hbc)
            | (go_at_call 53; (with_reducible refine (UC.out.td.childE (.inr GK.out) false GU.out).mono ?_); rintro e wc ⟨rfl, hbc⟩; have UC := Lib.hid (UC.out.below hbc); have C1 := Lib.hid UC.out.cell; (try clear c1); have c1 := C1.out; clear hbc)
            | (go_at_call 54; (with_reducible refine (UC.out.td.redE GO.out EU2.out).mono ?_); rintro e wc ⟨rfl, hbc⟩; have UC := Lib.hid (UC.out.below hbc); have C1 := Lib.hid UC.out.cell; (try clear c1); have c1 := C1.out; clear hbc)
            | (go_at_call 46; (with_reducible refine (UC.out.td.paint0 (.inr FK.out)).mono ?_); rintro e wc ⟨⟨uv, rfl⟩, hdc, hfc⟩; have UC := Lib.hid (UC.out.fg hdc hfc); have C1 := Lib.hid UC.out.cell; (try clear c1); have c1 := C1.out; clear hdc hfc)
            | (go_at_call 46; (with_reducible refine (UC.out.td.paint0 GO.out).mono ?_); rintro e wc ⟨⟨uv, rfl⟩, hdc, hfc⟩; have UC := Lib.hid (UC.out.fg hdc hfc); have C1 := Lib.hid UC.out.cell; (try clear c1); have c1 := C1.out; clear hdc hfc)
            | (go_at_call 46; (with_reducible refine (UC.out.td.paint1 (.inr GK.out)).mono ?_); rintro e wc ⟨⟨uv, rfl⟩, hdc, hfc⟩; have UC := Lib.hid (UC.out.fg hdc hfc); have C1 := Lib.hid UC.out.cell; (try clear c1); have c1 := C1.out; clear hdc hfc))
          have hi := HI.out
          have hgk := HGK.out
          go_roundg u'.length
          case measure => omega
          case rel => exact ⟨i + 1, _, u', _, g.k, _, rfl, by go_num, rfl, by omega, RA2, UC⟩
        | false =>
          have EU2 : Hid (s1.red g.o.root = false) := Lib.hid (by rw [EU.out]; exact hgo)
          by_cases hd : f.d = g.d
          · have FX : Hid (s1.ch f.k true = x) := Lib.hid (by have := RFC.out; rwa [hd, HGD.out] at this)
            have ra := hR.out.outer h0.out HF.out HG.out hgo hd
            rw [HNG.out] at ra
            have RA2 := Lib.hid ra
            have RP2 : Hid (Rp ((s1.paint f.k false).paint g.k true) u' (.mk g.d true (.mk f.d false T1 f.k f.o) g.k g.o) g.k (((s1.paint f.k false).paint g.k true).par g.k)) := Lib.hid (((hR.out.rp.colUp false).out.colUp true).out)
            have ngo := NGO.out
            clear hgo hd ra
            go_wp2_with (first
              | (go_at_call 34; (with_reducible refine (UC.out.td.parE (.inr HX.out) EP.out).mono ?_); rintro e wc ⟨rfl, hbc⟩; have UC := Lib.hid (UC.out.below hbc); have C1 := Lib.hid UC.out.cell; (try clear c1); have c1 := C1.out; clear hbc)
              | (go_at_call 54; (with_reducible refine (UC.out.td.redE (.inr FK.out) ER.out).mono ?_); rintro e wc ⟨rfl, hbc⟩; have UC := Lib.hid (UC.out.below hbc); have C1 := Lib.hid UC.out.cell; (try clear c1); have c1 := C1.out; clear hbc)
              | (go_at_call 34; (with_reducible refine (UC.out.td.parE (.inr FK.out) EG.out).mono ?_); rintro e wc ⟨rfl, hbc⟩; have UC := Lib.hid (UC.out.below hbc); have C1 := Lib.hid UC.out.cell; (try clear c1); have c1 := C1.out; clear hbc)
              | (go_at_call 53; (with_reducible refine (UC.out.td.childE (.inr GK.out) true GC.out).mono ?_); rintro e wc ⟨rfl, hbc⟩; have UC := Lib.hid (UC.out.below hbc); have C1 := Lib.hid UC.out.cell; (try clear c1); have c1 := C1.out; clear hbc)
              | (go_at_call 53; (with_reducible refine (UC.out.td.childE (.inr GK.out) false GU.out).mono ?_); rintro e wc ⟨rfl, hbc⟩; have UC := Lib.hid (UC.out.below hbc); have C1 := Lib.hid UC.out.cell; (try clear c1); have c1 := C1.out; clear hbc)
              | (go_at_call 54; (with_reducible refine (UC.out.td.redE GO.out EU2.out).mono ?_); rintro e wc ⟨rfl, hbc⟩; have UC := Lib.hid (UC.out.below hbc); have C1 := Lib.hid UC.out.cell; (try clear c1); have c1 := C1.out; clear hbc)
              | (go_at_call 53; (with_reducible refine (UC.out.td.childE (.inr FK.out) true FX.out).mono ?_); rintro e wc ⟨rfl, hbc⟩; have UC := Lib.hid (UC.out.below hbc); have C1 := Lib.hid UC.out.cell; (try clear c1); have c1 := C1.out; clear hbc)
              | (go_at_call 46; (with_reducible refine (UC.out.td.paint0 (.inr FK.out)).mono ?_); rintro e wc ⟨⟨uv, rfl⟩, hdc, hfc⟩; have UC := Lib.hid (UC.out.fg hdc hfc); have C1 := Lib.hid UC.out.cell; (try clear c1); have c1 := C1.out; clear hdc hfc)
              | (go_at_call 46; (with_reducible refine (UC.out.td.paint1 (.inr GK.out)).mono ?_); rintro e wc ⟨⟨uv, rfl⟩, hdc, hfc⟩; have UC := Lib.hid (UC.out.fg hdc hfc); have C1 := Lib.hid UC.out.cell; (try clear c1); have c1 := C1.out; clear hdc hfc)
              | (go_at_call 59; (with_reducible refine (UC.out.td.rotateR RP2.out (T.isE_mk ..) GK.out).mono ?_); rintro e wc ⟨⟨uv, rfl⟩, hdc, hfc⟩; have UC := Lib.hid (UC.out.fg hdc hfc); have C1 := Lib.hid UC.out.cell; (try clear c1); have c1 := C1.out; clear hdc hfc))
            have hi := HI.out
            have hgk := HGK.out
            go_roundg (u'.length + 1)
            case measure => omega
            case rel => exact ⟨i + 1, _, _, T1, x, f.k, rfl, by go_num, rfl, by simp only [List.length_cons]; omega, RA2, UC⟩
          · have hd2 : f.d = !g.d := not_side hd
            have FX : Hid (s1.ch f.k true = f.o.root) := Lib.hid (by have := RFO.out; rwa [hd2, Bool.not_not, HGD.out] at this)
            have ra1 := hR.out.inner h0.out HF.out HG.out hgo hd2
            have ra := ra1.outer h0.out rfl HG.out hgo rfl
            have rp2 := ((ra1.rp.colUp false).out.colUp true).out
            rw [HNG.out] at ra
            have e2 : s1.turn f.k g.d = s1.turn f.k true := by rw [HGD.out]
            rw [e2] at ra rp2
            have RA2 := Lib.hid ra
            have RP2 := Lib.hid rp2
            have RP1 := Lib.hid hR.out.rp.out
            have ngo := NGO.out
            have nxo := NXO.out
            clear hgo hd hd2 ra1 ra rp2 e2
            go_wp2_with (first
              | (go_at_call 34; (with_reducible refine (UC.out.td.parE (.inr HX.out) EP.out).mono ?_); rintro e wc ⟨rfl, hbc⟩; have UC := Lib.hid (UC.out.below hbc); have C1 := Lib.hid UC.out.cell; (try clear c1); have c1 := C1.out; clear hbc)
              | (go_at_call 54; (with_reducible refine (UC.out.td.redE (.inr FK.out) ER.out).mono ?_); rintro e wc ⟨rfl, hbc⟩; have UC := Lib.hid (UC.out.below hbc); have C1 := Lib.hid UC.out.cell; (try clear c1); have c1 := C1.out; clear hbc)
              | (go_at_call 34; (with_reducible refine (UC.out.td.parE (.inr FK.out) EG.out).mono ?_); rintro e wc ⟨rfl, hbc⟩; have UC := Lib.hid (UC.out.below hbc); have C1 := Lib.hid UC.out.cell; (try clear c1); have c1 := C1.out; clear hbc)
              | (go_at_call 53; (with_reducible refine (UC.out.td.childE (.inr GK.out) true GC.out).mono ?_); rintro e wc ⟨rfl, hbc⟩; have UC := Lib.hid (UC.out.below hbc); have C1 := Lib.hid UC.out.cell; (try clear c1); have c1 := C1.out; clear hbc)
              | (go_at_call 53; (with_reducible refine (UC.out.td.childE (.inr GK.out) false GU.out).mono ?_); rintro e wc ⟨rfl, hbc⟩; have UC := Lib.hid (UC.out.below hbc); have C1 := Lib.hid UC.out.cell; (try clear c1); have c1 := C1.out; clear hbc)
              | (go_at_call 54; (with_reducible refine (UC.out.td.redE GO.out EU2.out).mono ?_); rintro e wc ⟨rfl, hbc⟩; have UC := Lib.hid (UC.out.below hbc); have C1 := Lib.hid UC.out.cell; (try clear c1); have c1 := C1.out; clear hbc)
              | (go_at_call 53; (with_reducible refine (UC.out.td.childE (.inr FK.out) true FX.out).mono ?_); rintro e wc ⟨rfl, hbc⟩; have UC := Lib.hid (UC.out.below hbc); have C1 := Lib.hid UC.out.cell; (try clear c1); have c1 := C1.out; clear hbc)
              | (go_at_call 59; (with_reducible refine (UC.out.td.rotateR RP1.out (T.isE_mk ..) FK.out).mono ?_); rintro e wc ⟨⟨uv, rfl⟩, hdc, hfc⟩; have UC := Lib.hid (UC.out.fg hdc hfc); have C1 := Lib.hid UC.out.cell; (try clear c1); have c1 := C1.out; clear hdc hfc)
              | (go_at_call 46; (with_reducible refine (UC.out.td.paint0 (.inr HX.out)).mono ?_); rintro e wc ⟨⟨uv, rfl⟩, hdc, hfc⟩; have UC := Lib.hid (UC.out.fg hdc hfc); have C1 := Lib.hid UC.out.cell; (try clear c1); have c1 := C1.out; clear hdc hfc)
              | (go_at_call 46; (with_reducible refine (UC.out.td.paint1 (.inr GK.out)).mono ?_); rintro e wc ⟨⟨uv, rfl⟩, hdc, hfc⟩; have UC := Lib.hid (UC.out.fg hdc hfc); have C1 := Lib.hid UC.out.cell; (try clear c1); have c1 := C1.out; clear hdc hfc)
              | (go_at_call 59; (with_reducible refine (UC.out.td.rotateR RP2.out (T.isE_mk ..) GK.out).mono ?_); rintro e wc ⟨⟨uv, rfl⟩, hdc, hfc⟩; have UC := Lib.hid (UC.out.fg hdc hfc); have C1 := Lib.hid UC.out.cell; (try clear c1); have c1 := C1.out; clear hdc hfc))
            have hi := HI.out
            have hgk := HGK.out
            go_roundg (u'.length + 1)
            case measure => omega
            case rel => exact ⟨i + 1, _, _, _, f.k, x, rfl, by go_num, rfl, by simp only [List.length_cons]; omega, RA2, UC⟩
end
end Go.Proofs.YtiacclmapicmdaaDoor
