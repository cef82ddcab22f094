/- The contract of tree's takeOut over a tree's links. Conditions: the table of widths lies in its block; the arena's blocks are known; its bytes are a tree's links. -/
import Derived.Test.YtiacclmapicmdaaDoorTrTake
import Derived.Deep.CutRange
import Derived.OwnWalk
namespace Go.Proofs.YtiacclmapicmdaaDoor
open Go.RowKit

section
variable {c : Cx} {w w' : World} {s : Tr} {I : Nat → Bool}
theorem Td.childZ (t : Td c w s I) {x : Nat} (hx : x = 0 ∨ c.N x) (d : Bool) (e : s.ch x d = 0) :
    Calls Tryd.prog 53 #[lv c.p, .int .i64 (c.ad x : Nat), .bool d] w fun e w' => e = .returned (.int .i64 0) ∧ Below w.heap.size w w' := by
  have := t.childE hx d e
  rw [t.pl.ad0] at this
  exact this
/-- What taking a leaf out leaves to do. -/
structure Tk (c : Cx) (S : List Nat) (s s' : Tr) (D : T) (x p : Nat) (col : Bool) : Prop where
  ex : ∃ u t, Rp s' u t x p ∧ D = cutAt u col t ∧ (col = false → ∃ n, Bu u (n + 1) ∧ Bal t n) ∧ (∀ j, j ∈ (plug u t).ns → j ∈ S)
  out : Out S s s'
set_option maxRecDepth 100000 in
set_option maxHeartbeats 4000000 in
theorem Td.takeOut (t : Td c w s I) {u : List Fr} {cc : Bool} {l r : T} {z p : Nat} (h : Rp s u (.n cc l z r) z p) (hrb : Rb (plug u (.n cc l z r))) (hN : ∀ j, j ∈ (plug u (.n cc l z r)).ns → c.N j) (hlen : (plug u (.n cc l z r)).ns.length < c.n) :
    Calls Tryd.prog 35 #[lv c.p, .int .i64 (c.rt : Nat), .int .i64 (c.ad z : Nat)] w fun e w' => ∃ x' p' col s', e = .returned (.tuple #[.int .i64 (c.ad x' : Nat), .int .i64 (c.ad p' : Nat), .int .i64 (cv col)]) ∧
      Td c w' s' I ∧ Tk c (plug u (.n cc l z r)).ns s s' (delAt u (.n cc l z r)) x' p' col ∧ (p' = 0 ∨ c.N p') ∧ Fg c.g w w' := by
  have hk := h.kid rfl
  have zN : c.N z := hN z (mem_plug.2 (.inl (by simp [T.ns])))
  have pN : p = 0 ∨ c.N p := by have := t.parN (.inr zN); rwa [hk.2.2.1] at this
  have lN : l.root = 0 ∨ c.N l.root := (root_mem l).symm.imp id fun hm => hN _ (mem_plug.2 (.inl (by simp [T.ns, hm])))
  have rN : r.root = 0 ∨ c.N r.root := (root_mem r).symm.imp id fun hm => hN _ (mem_plug.2 (.inl (by simp [T.ns, hm])))
  have ZN := Lib.hid zN
  have PN := Lib.hid pN
  have LN := Lib.hid lN
  have RN := Lib.hid rN
  have SDZ := Lib.hid (h.sd2 rfl)
  have HH := Lib.hid h
  have HRB := Lib.hid hrb
  have HN := Lib.hid hN
  have CL : Hid (s.ch z false = l.root) := Lib.hid (hk.1 false)
  have CR : Hid (s.ch z true = r.root) := Lib.hid (hk.1 true)
  have lb := (t.pl.bd lN).2
  have rb := (t.pl.bd rN).2
  have zl : l.root = 0 ↔ l.isE = true := by
    cases l with
    | e => simp [T.root, T.isE]
    | n cl ll kl rl =>
      have : kl ≠ 0 := fun e => at_pos h.at_ (by rw [← e]; simp [T.ns])
      simp [T.root, T.isE, this]
  have zr : r.root = 0 ↔ r.isE = true := by
    cases r with
    | e => simp [T.root, T.isE]
    | n cl ll kl rl =>
      have : kl ≠ 0 := fun e => at_pos h.at_ (by rw [← e]; simp [T.ns])
      simp [T.root, T.isE, this]
  have il := t.zi lN
  have ir := t.zi rN
  have z0 := hk.2.2.2
  have HLEN := Lib.hid hlen
  obtain ⟨w1, hw1⟩ : ∃ w1, w1 = w.alloc (.cells #[.pointer (some ⟨c.p, 0, none⟩)] 69) := ⟨_, rfl⟩
  obtain ⟨b, hbe⟩ : ∃ b, b = w.heap.size := ⟨_, rfl⟩
  have UC : Hid (Tb c w w1 b s I) := Lib.hid (by rw [hw1, hbe]; exact Tb.new t)
  have HW := Lib.hid hw1
  have HBE := Lib.hid hbe
  clear hw1 hbe h hrb hN zN pN lN rN hk t hlen
  have hmem : Hid (∀ j, j ∈ (T.n cc l z r).ns → c.N j) := Lib.hid fun j hj => HN.out j (mem_plug.2 (.inl hj))
  cases hle : l.isE with
  | true =>
    obtain rfl := isE_eq hle
    have hx1 : Rp (s.place z r.root) u r r.root p := rp_child (d := false) HH.out
    have hpz : Hid ((s.place z r.root).par z = p) := Lib.hid (by
      unfold Tr.place
      rw [Tr.par_join, if_neg, (HH.out.kid rfl).2.2.1]
      rintro ⟨e, h0⟩
      rcases root_mem r with hm | hm
      · have := (nodup_mk (d := false) (c := cc) (a := .e) (b := r) (k := z)).1 HH.out.nt
        exact this.2.2.2.1 (e ▸ hm)
      · exact h0 hm)
    have hcz : Hid ((s.place z r.root).red z = cc) := Lib.hid (by
      unfold Tr.place
      rw [Tr.red_join]
      exact (HH.out.kid rfl).2.1)
    have hdel : delAt u (T.n cc .e z r) = cutAt u cc r := by rw [delAt]; rfl
    have TK : Hid (Tk c (plug u (T.n cc .e z r)).ns s (s.place z r.root) (delAt u (T.n cc .e z r)) r.root p cc) := Lib.hid ⟨⟨u, r, hx1, hdel, fun hc => by
        subst hc
        exact cut_bal HRB.out (.inr rfl), fun j hj => by
        rw [mem_plug] at hj ⊢
        exact hj.imp (fun h => by simp [T.ns, h]) id⟩, by
      have hk := (HH.out.kid rfl).2.2.1
      unfold Tr.place
      refine out_join _ ?_ ?_
      · rw [hk]
        rcases HH.out.z0 with h0 | ⟨h0, _⟩
        · exact .inr h0
        · exact .inl (mem_plug.2 (.inr h0))
      · rcases root_mem r with hm | hm
        · exact .inl (mem_plug.2 (.inl (by simp [T.ns, hm])))
        · exact .inr hm⟩
    clear hx1 hdel
    have CL0 : Hid (s.ch z false = 0) := CL
    have hw2 : IntKind.i64.wrap ((c.ad r.root : Nat) : Int) = (c.ad r.root : Nat) := IntWalk.i64_in _ (by omega)
    clear zl zr il ir z0 hle
    go_enter Tryd.func35, Tryd.ntmps35
    go_wp2_with fail
    rw [← HBE.out, ← HW.out]
    have C1 := Lib.hid UC.out.cell
    have c1 := C1.out
    go_cut [9, 10] from 12 to 17 (fun v9 v10 wx => v9 = .int .i64 0 ∧ v10 = .int .i64 (c.ad r.root : Nat) ∧ Hid (Tb c w wx b s I))
    case first =>
      have UC := Lib.hid UC.out.drew
      go_region_held3 (fun w' => w'.cell? ⟨b, 0, none⟩ = some (.pointer (some ⟨c.p, 0, none⟩))) (first | go_keep | with_reducible exact C1.out) (first
          | (go_at_call 53; (with_reducible refine (UC.out.td.childZ (.inr ZN.out) false CL0.out).mono ?_); rintro e wc ⟨rfl, hbc⟩; have UC := Lib.hid (UC.out.below hbc); have C1 := Lib.hid UC.out.cell; replace hbc := Lib.hid hbc)
          | (go_at_call 53; (with_reducible refine (UC.out.td.childE (.inr ZN.out) true CR.out).mono ?_); rintro e wc ⟨rfl, hbc⟩; have UC := Lib.hid (UC.out.below hbc); have C1 := Lib.hid UC.out.cell; replace hbc := Lib.hid hbc))
      all_goals
        go_wp2_with fail
        go_meet
        exact ⟨rfl, rfl, UC⟩
    case rest =>
    obtain ⟨rfl, rfl, UC⟩ := hcut
    have C1 := Lib.hid UC.out.cell
    (try clear c1)
    have c1 := C1.out
    go_wp2_with (first
      | (go_at_call 58; (with_reducible refine (UC.out.td.replace ZN.out RN.out SDZ.out).mono ?_); rintro e wc ⟨⟨uv, rfl⟩, hdc, hfc⟩; have UC := Lib.hid (UC.out.fg hdc hfc); have C1 := Lib.hid UC.out.cell; (try clear c1); have c1 := C1.out; clear hdc hfc))
    have UC := Lib.hid UC.out.drew
    go_region_held3 (fun w' => w'.cell? ⟨b, 0, none⟩ = some (.pointer (some ⟨c.p, 0, none⟩))) (first | go_keep | with_reducible exact C1.out) (first
        | (go_at_call 34; (with_reducible refine (UC.out.td.parE (.inr ZN.out) hpz.out).mono ?_); rintro e wc ⟨rfl, hbc⟩; have UC := Lib.hid (UC.out.below hbc); have C1 := Lib.hid UC.out.cell; replace hbc := Lib.hid hbc)
        | (go_at_call 34; (with_reducible refine (UC.out.td.colE (.inr ZN.out) hcz.out).mono ?_); rintro e wc ⟨rfl, hbc⟩; have UC := Lib.hid (UC.out.below hbc); have C1 := Lib.hid UC.out.cell; replace hbc := Lib.hid hbc))
    all_goals
      go_wp2_with fail
      go_ret3
      exact ⟨_, _, _, _, rfl, UC.out.td, TK.out, PN.out, UC.out.fr⟩
  | false =>
    have hl0 : ¬ ((c.ad l.root : Nat) : Int) = 0 := fun e => by
      rw [zl.1 (il.1 e)] at hle
      cases hle
    cases hre : r.isE with
    | true =>
      obtain rfl := isE_eq hre
      have hx1 : Rp (s.place z l.root) u l l.root p := rp_child (d := true) HH.out
      have hpz : Hid ((s.place z l.root).par z = p) := Lib.hid (by
        unfold Tr.place
        rw [Tr.par_join, if_neg, (HH.out.kid rfl).2.2.1]
        rintro ⟨e, h0⟩
        rcases root_mem l with hm | hm
        · have := (nodup_mk (d := true) (c := cc) (a := .e) (b := l) (k := z)).1 HH.out.nt
          exact this.2.2.2.1 (e ▸ hm)
        · exact h0 hm)
      have hcz : Hid ((s.place z l.root).red z = cc) := Lib.hid (by
        unfold Tr.place
        rw [Tr.red_join]
        exact (HH.out.kid rfl).2.1)
      have hdel : delAt u (T.n cc l z .e) = cutAt u cc l := by rw [delAt, if_neg (by rw [hle]; simp)]; rfl
      have TK : Hid (Tk c (plug u (T.n cc l z .e)).ns s (s.place z l.root) (delAt u (T.n cc l z .e)) l.root p cc) := Lib.hid ⟨⟨u, l, hx1, hdel, fun hc => by
          subst hc
          exact cut_bal HRB.out (.inl rfl), fun j hj => by
          rw [mem_plug] at hj ⊢
          exact hj.imp (fun h => by simp [T.ns, h]) id⟩, by
        have hk := (HH.out.kid rfl).2.2.1
        unfold Tr.place
        refine out_join _ ?_ ?_
        · rw [hk]
          rcases HH.out.z0 with h0 | ⟨h0, _⟩
          · exact .inr h0
          · exact .inl (mem_plug.2 (.inr h0))
        · rcases root_mem l with hm | hm
          · exact .inl (mem_plug.2 (.inl (by simp [T.ns, hm])))
          · exact .inr hm⟩
      clear hx1 hdel
      have CR0 : Hid (s.ch z true = 0) := CR
      have hw2 : IntKind.i64.wrap ((c.ad l.root : Nat) : Int) = (c.ad l.root : Nat) := IntWalk.i64_in _ (by omega)
      clear zl zr il ir z0 hle hre
      go_enter Tryd.func35, Tryd.ntmps35
      go_wp2_with fail
      rw [← HBE.out, ← HW.out]
      have C1 := Lib.hid UC.out.cell
      have c1 := C1.out
      go_cut [9, 10] from 12 to 17 (fun v9 v10 wx => v9 = .int .i64 (c.ad l.root : Nat) ∧ v10 = .int .i64 0 ∧ Hid (Tb c w wx b s I))
      case first =>
        have UC := Lib.hid UC.out.drew
        go_region_held3 (fun w' => w'.cell? ⟨b, 0, none⟩ = some (.pointer (some ⟨c.p, 0, none⟩))) (first | go_keep | with_reducible exact C1.out) (first
            | (go_at_call 53; (with_reducible refine (UC.out.td.childE (.inr ZN.out) false CL.out).mono ?_); rintro e wc ⟨rfl, hbc⟩; have UC := Lib.hid (UC.out.below hbc); have C1 := Lib.hid UC.out.cell; replace hbc := Lib.hid hbc)
            | (go_at_call 53; (with_reducible refine (UC.out.td.childZ (.inr ZN.out) true CR0.out).mono ?_); rintro e wc ⟨rfl, hbc⟩; have UC := Lib.hid (UC.out.below hbc); have C1 := Lib.hid UC.out.cell; replace hbc := Lib.hid hbc))
        all_goals
          go_wp2_with fail
          go_meet
          exact ⟨rfl, rfl, UC⟩
      case rest =>
      obtain ⟨rfl, rfl, UC⟩ := hcut
      have C1 := Lib.hid UC.out.cell
      (try clear c1)
      have c1 := C1.out
      go_wp2_with (first
        | (go_at_call 58; (with_reducible refine (UC.out.td.replace ZN.out LN.out SDZ.out).mono ?_); rintro e wc ⟨⟨uv, rfl⟩, hdc, hfc⟩; have UC := Lib.hid (UC.out.fg hdc hfc); have C1 := Lib.hid UC.out.cell; (try clear c1); have c1 := C1.out; clear hdc hfc))
      have UC := Lib.hid UC.out.drew
      go_region_held3 (fun w' => w'.cell? ⟨b, 0, none⟩ = some (.pointer (some ⟨c.p, 0, none⟩))) (first | go_keep | with_reducible exact C1.out) (first
          | (go_at_call 34; (with_reducible refine (UC.out.td.parE (.inr ZN.out) hpz.out).mono ?_); rintro e wc ⟨rfl, hbc⟩; have UC := Lib.hid (UC.out.below hbc); have C1 := Lib.hid UC.out.cell; replace hbc := Lib.hid hbc)
          | (go_at_call 34; (with_reducible refine (UC.out.td.colE (.inr ZN.out) hcz.out).mono ?_); rintro e wc ⟨rfl, hbc⟩; have UC := Lib.hid (UC.out.below hbc); have C1 := Lib.hid UC.out.cell; replace hbc := Lib.hid hbc))
      all_goals
        go_wp2_with fail
        go_ret3
        exact ⟨_, _, _, _, rfl, UC.out.td, TK.out, PN.out, UC.out.fr⟩
    | false =>
      have hr0 : ¬ ((c.ad r.root : Nat) : Int) = 0 := fun e => by
        rw [zr.1 (ir.1 e)] at hre
        cases hre
      have hl0b : (((c.ad l.root : Nat) : Int) == 0) = false := beq_eq_false_iff_ne.2 hl0
      have hr0b : (((c.ad r.root : Nat) : Int) == 0) = false := beq_eq_false_iff_ne.2 hr0
      obtain ⟨lo, yc, yr, hr, hlow⟩ := low_of hre
      obtain ⟨y, hy⟩ : ∃ y, y = fst r := ⟨_, rfl⟩
      rw [← hy] at hr hlow
      have hfst : Hid (fst r = y) := Lib.hid hy.symm
      have hdel : delAt u (.n cc l z r) = cutAt (lo ++ ⟨true, cc, y, l⟩ :: u) yc yr := by
        rw [delAt, if_neg (by rw [hle]; simp), if_neg (by rw [hre]; simp), ← hy, hlow, hlow]
        rfl
      have HR : Hid (r = plug lo (.n yc .e y yr)) := Lib.hid hr
      have HH2 : Rp s u (.n cc l z (plug lo (.n yc .e y yr))) z p := by rw [← hr]; exact HH.out
      have hY := take_y HH2
      have hyk := hY.kid rfl
      obtain ⟨hZ1, hZ2⟩ := take_z HH2
      obtain ⟨p', h5, hp'⟩ := take_two HH2
      have yN : c.N y := hmem.out y (by
        rw [hr]
        simp only [T.ns, List.mem_append, List.mem_cons]
        exact .inr (.inr (mem_plug.2 (.inl (by simp [T.ns])))))
      have yrN : yr.root = 0 ∨ c.N yr.root := (root_mem yr).symm.imp id fun hm => hmem.out _ (by
        rw [hr]
        simp only [T.ns, List.mem_append, List.mem_cons]
        exact .inr (.inr (mem_plug.2 (.inl (by simp [T.ns, hm])))))
      have pyN : s.par y = 0 ∨ c.N (s.par y) := UC.out.td.parN (.inr yN)
      have yz : y ≠ z := fun e => by
        have := hY.ap y (by simp [T.ns])
        rw [fns_app] at this
        exact this (by simp [fns, e])
      have AT : Hid (At s r r.root z) := Lib.hid (by have := HH.out.at_.2.2.2.2.2; rwa [CR.out] at this)
      have LE : Hid (r.ns.length < c.n) := Lib.hid (by
        have h1 := HLEN.out
        rw [plug_split] at h1
        simp only [T.ns, List.length_append, List.length_cons] at h1
        omega)
      have TK : Hid (Tk c (plug u (.n cc l z r)).ns s (inFor (s.place y yr.root) z y) (delAt u (.n cc l z r)) yr.root p' yc) := Lib.hid ⟨⟨_, _, h5, hdel, fun hc => by
          subst hc
          have := HRB.out
          have e1 : plug u (.n cc l z r) = plug (lo ++ ⟨true, cc, z, l⟩ :: u) (.n false .e y yr) := by
            rw [hr, plug_app]; rfl
          rw [e1] at this
          obtain ⟨n, hb, hbl⟩ := cut_bal this (.inr rfl)
          refine ⟨n, ?_, hbl⟩
          have bus : ∀ (lo : List Fr) (n : Nat), Bu (lo ++ ⟨true, cc, z, l⟩ :: u) n → Bu (lo ++ ⟨true, cc, y, l⟩ :: u) n := fun lo => by
            induction lo with
            | nil => intro n h; exact h
            | cons f lo ih =>
              rintro n ⟨h1, h2, h3⟩
              refine ⟨h1, fun hc => ?_, ih _ h3⟩
              obtain ⟨h4, h6⟩ := h2 hc
              refine ⟨h4, ?_⟩
              cases lo with
              | nil => exact h6
              | cons g lo => exact h6
          exact bus lo _ hb, fun j hj => by
          rw [hr]
          rw [mem_plug, fns_app] at hj
          rw [mem_plug]
          simp only [T.ns, List.mem_append, List.mem_cons, fns, mem_plug, List.nil_append] at hj ⊢
          rcases hj with h | h | h | h | h
          · exact .inl (.inr (.inr (.inl (.inr h))))
          · exact .inl (.inr (.inr (.inr h)))
          · exact .inl (.inr (.inr (.inl (.inl h))))
          · exact .inl (.inl h)
          · exact .inr h⟩, by
        have := take_two_out (S := (plug u (.n cc l z r)).ns) HH2 (fun j hj => by rw [hr]; exact hj)
        exact this⟩
      have YN := Lib.hid yN
      have YRN := Lib.hid yrN
      have PYN := Lib.hid pyN
      have SDY := Lib.hid (hY.sd2 rfl)
      have SDZ2 := Lib.hid (hZ2.sd2 rfl)
      have CY : Hid (s.ch y true = yr.root) := Lib.hid (hyk.1 true)
      have RY : Hid (s.red y = yc) := Lib.hid hyk.2.1
      have PN2 : Hid (p' = 0 ∨ c.N p') := Lib.hid (by rw [hp']; split; exact .inr yN; exact pyN)
      have HP := Lib.hid hp'
      have ez := UC.out.td.eqi pyN (.inr ZN.out)
      obtain ⟨s1, hs1⟩ : ∃ s1, s1 = s.place y yr.root := ⟨_, rfl⟩
      rw [← hs1] at SDZ2 TK
      have HS1 := Lib.hid hs1
      obtain ⟨s2, hs2⟩ : ∃ s2, s2 = s1.place z y := ⟨_, rfl⟩
      obtain ⟨s3, hs3⟩ : ∃ s3, s3 = s2.join y false (s2.ch z false) := ⟨_, rfl⟩
      obtain ⟨s4, hs4⟩ : ∃ s4, s4 = s3.join y true (s3.ch z true) := ⟨_, rfl⟩
      have HS2 := Lib.hid hs2
      have HS3 := Lib.hid hs3
      have HS4 := Lib.hid hs4
      have HS5 : Hid (inFor s1 z y = s4.paint y (s4.red z)) := Lib.hid (by rw [hs4, hs3, hs2]; rfl)
      clear zl zr il ir z0 hr hlow hdel HH2 hY hyk hZ1 hZ2 h5 hp' yN yrN pyN hs1 hs2 hs3 hs4 hle hre hy
      go_enter Tryd.func35, Tryd.ntmps35
      go_wp2_with fail
      rw [← HBE.out, ← HW.out]
      have C1 := Lib.hid UC.out.cell
      have c1 := C1.out
      go_cut [9, 10] from 12 to 17 (fun v9 v10 wx => v9 = .int .i64 (c.ad l.root : Nat) ∧ v10 = .int .i64 (c.ad r.root : Nat) ∧ Hid (Tb c w wx b s I))
      case first =>
        have UC := Lib.hid UC.out.drew
        go_region_held3 (fun w' => w'.cell? ⟨b, 0, none⟩ = some (.pointer (some ⟨c.p, 0, none⟩))) (first | go_keep | with_reducible exact C1.out) (first
            | (go_at_call 53; (with_reducible refine (UC.out.td.childE (.inr ZN.out) false CL.out).mono ?_); rintro e wc ⟨rfl, hbc⟩; have UC := Lib.hid (UC.out.below hbc); have C1 := Lib.hid UC.out.cell; replace hbc := Lib.hid hbc)
            | (go_at_call 53; (with_reducible refine (UC.out.td.childE (.inr ZN.out) true CR.out).mono ?_); rintro e wc ⟨rfl, hbc⟩; have UC := Lib.hid (UC.out.below hbc); have C1 := Lib.hid UC.out.cell; replace hbc := Lib.hid hbc))
        all_goals
          go_wp2_with fail
          go_meet
          exact ⟨rfl, rfl, UC⟩
      case rest =>
      obtain ⟨rfl, rfl, UC⟩ := hcut
      have C1 := Lib.hid UC.out.cell
      (try clear c1)
      have c1 := C1.out
      have LM : Hid (∀ w, Td c w s I → Calls Tryd.prog 51 #[lv c.p, .int .i64 (c.ad r.root : Nat)] w fun e w' => e = .returned (.int .i64 (c.ad y : Nat)) ∧ Below w.heap.size w w') := Lib.hid fun w t => by
        have := t.leftmost AT.out RN.out LE.out
        rwa [hfst.out] at this
      go_upto_region 7 with (go_at_call 51; (with_reducible refine (LM.out _ UC.out.td).mono ?_); rintro e wc ⟨rfl, hbc⟩; have UC := Lib.hid (UC.out.below hbc); have C1 := Lib.hid UC.out.cell; (try clear c1); have c1 := C1.out; clear hbc)
      go_cut [6, 7, 8] from 42 to 50 (fun v6 v7 v8 wx => v6 = .int .i64 (c.ad yr.root : Nat) ∧ v7 = .int .i64 (c.ad (s.par y) : Nat) ∧ v8 = .int .i64 (cv yc) ∧ Hid (Tb c w wx b s I))
      case first =>
        have UC := Lib.hid UC.out.drew
        go_region_held3 (fun w' => w'.cell? ⟨b, 0, none⟩ = some (.pointer (some ⟨c.p, 0, none⟩))) (first | go_keep | with_reducible exact C1.out) (first
            | (go_at_call 53; (with_reducible refine (UC.out.td.childE (.inr YN.out) true CY.out).mono ?_); rintro e wc ⟨rfl, hbc⟩; have UC := Lib.hid (UC.out.below hbc); have C1 := Lib.hid UC.out.cell; replace hbc := Lib.hid hbc)
            | (go_at_call 34; (with_reducible refine (UC.out.td.par (.inr YN.out)).mono ?_); rintro e wc ⟨rfl, hbc⟩; have UC := Lib.hid (UC.out.below hbc); have C1 := Lib.hid UC.out.cell; replace hbc := Lib.hid hbc)
            | (go_at_call 34; (with_reducible refine (UC.out.td.colE (.inr YN.out) RY.out).mono ?_); rintro e wc ⟨rfl, hbc⟩; have UC := Lib.hid (UC.out.below hbc); have C1 := Lib.hid UC.out.cell; replace hbc := Lib.hid hbc))
        all_goals
          go_wp2_with fail
          go_meet
          exact ⟨rfl, rfl, rfl, UC⟩
      case rest =>
      obtain ⟨rfl, rfl, rfl, UC⟩ := hcut
      have C1 := Lib.hid UC.out.cell
      (try clear c1)
      have c1 := C1.out
      go_wp2_with (go_at_call 58; (with_reducible refine (UC.out.td.replace YN.out YRN.out SDY.out).mono ?_); rintro e wc ⟨⟨uv, rfl⟩, hdc, hfc⟩; have UC := Lib.hid (UC.out.fg hdc hfc); have C1 := Lib.hid UC.out.cell; (try clear c1); have c1 := C1.out; clear hdc hfc)
      rw [← HS1.out] at UC
      go_wp2_with (go_at_call 58; (with_reducible refine (UC.out.td.replace ZN.out (.inr YN.out) SDZ2.out).mono ?_); rintro e wc ⟨⟨uv, rfl⟩, hdc, hfc⟩; have UC := Lib.hid (UC.out.fg hdc hfc); have C1 := Lib.hid UC.out.cell; (try clear c1); have c1 := C1.out; clear hdc hfc)
      rw [← HS2.out] at UC
      have ZC1 := Lib.hid (UC.out.td.chN (.inr ZN.out) false)
      have UC := Lib.hid UC.out.drew
      go_region_held3 (fun w' => w'.cell? ⟨b, 0, none⟩ = some (.pointer (some ⟨c.p, 0, none⟩))) (first | go_keep | with_reducible exact C1.out) (first
          | (go_at_call 53; (with_reducible refine (UC.out.td.child (.inr ZN.out) false).mono ?_); rintro e wc ⟨rfl, hbc⟩; have UC := Lib.hid (UC.out.below hbc); have C1 := Lib.hid UC.out.cell; replace hbc := Lib.hid hbc)
          | (go_at_call 45; (with_reducible refine (UC.out.td.hang (.inr YN.out) ZC1.out false).mono ?_); rintro e wc ⟨⟨uv, rfl⟩, hdc, hfc⟩; have UC := Lib.hid (UC.out.fg hdc hfc); have C1 := Lib.hid UC.out.cell; replace hdc := Lib.hid hdc; replace hfc := Lib.hid hfc))
      all_goals
        (try clear c1)
        have c1 := C1.out
        rw [← HS3.out] at UC
        go_wp2_with fail
        have ZC2 := Lib.hid (UC.out.td.chN (.inr ZN.out) true)
        have UC := Lib.hid UC.out.drew
        go_region_held3 (fun w' => w'.cell? ⟨b, 0, none⟩ = some (.pointer (some ⟨c.p, 0, none⟩))) (first | go_keep | with_reducible exact C1.out) (first
            | (go_at_call 53; (with_reducible refine (UC.out.td.child (.inr ZN.out) true).mono ?_); rintro e wc ⟨rfl, hbc⟩; have UC := Lib.hid (UC.out.below hbc); have C1 := Lib.hid UC.out.cell; replace hbc := Lib.hid hbc)
            | (go_at_call 45; (with_reducible refine (UC.out.td.hang (.inr YN.out) ZC2.out true).mono ?_); rintro e wc ⟨⟨uv, rfl⟩, hdc, hfc⟩; have UC := Lib.hid (UC.out.fg hdc hfc); have C1 := Lib.hid UC.out.cell; replace hdc := Lib.hid hdc; replace hfc := Lib.hid hfc))
        all_goals
          (try clear c1)
          have c1 := C1.out
          rw [← HS4.out] at UC
          go_wp2_with fail
          have UC := Lib.hid UC.out.drew
          go_region_held3 (fun w' => w'.cell? ⟨b, 0, none⟩ = some (.pointer (some ⟨c.p, 0, none⟩))) (first | go_keep | with_reducible exact C1.out) (first
              | (go_at_call 34; (with_reducible refine (UC.out.td.col (.inr ZN.out)).mono ?_); rintro e wc ⟨rfl, hbc⟩; have UC := Lib.hid (UC.out.below hbc); have C1 := Lib.hid UC.out.cell; replace hbc := Lib.hid hbc)
              | (go_at_call 46; (with_reducible refine (UC.out.td.paint (.inr YN.out) _).mono ?_); rintro e wc ⟨⟨uv, rfl⟩, hdc, hfc⟩; have UC := Lib.hid (UC.out.fg hdc hfc); have C1 := Lib.hid UC.out.cell; replace hdc := Lib.hid hdc; replace hfc := Lib.hid hfc))
          all_goals
            (try clear c1)
            have c1 := C1.out
            rw [← HS5.out] at UC
            by_cases hpz : s.par y = z
            · have hpe : ((c.ad (s.par y) : Nat) : Int) = (c.ad z : Nat) := ez.2 hpz
              have hpp : Hid (p' = y) := Lib.hid (by rw [HP.out, if_pos hpz])
              clear ez hpz
              go_wp2_with fail
              go_ret3
              exact ⟨_, y, _, _, rfl, UC.out.td, by have := TK.out; rw [hpp.out] at this; exact this, .inr YN.out, UC.out.fr⟩
            · have hpe : ¬ ((c.ad (s.par y) : Nat) : Int) = (c.ad z : Nat) := fun e => hpz (ez.1 e)
              have hpp : Hid (p' = s.par y) := Lib.hid (by rw [HP.out, if_neg hpz])
              clear ez hpz
              go_wp2_with fail
              go_ret3
              exact ⟨_, s.par y, _, _, rfl, UC.out.td, by have := TK.out; rw [hpp.out] at this; exact this, PYN.out, UC.out.fr⟩
end
end Go.Proofs.YtiacclmapicmdaaDoor
