/- The contract of the law's blacks over a red-black tree in memory. Condition: the table of widths lies in its block. -/
import Derived.Test.YtiacclmapicmdaaDoorTrOpen
namespace Go.Proofs.YtiacclmapicmdaaDoor
open Go.RowKit

theorem bal_deep : ∀ {t : T} {n : Nat}, Bal t n → n ≤ deep t
  | .e, n, h => by have : n = 0 := h; omega
  | .n c l k r, n, ⟨m, hm, h1, h2, h3⟩ => by
    have a := bal_deep h1
    have b := (@deep_n c l r k).1
    cases c <;> simp at hm <;> omega
theorem At.sub {s : Tr} {cc : Bool} {l r : T} {k x q : Nat} (h : At s (.n cc l k r) x q) : At s l (s.ch x false) x ∧ At s r (s.ch x true) x ∧ s.red x = cc ∧ x = k := by
  obtain ⟨rfl, _, _, h4, h5, h6⟩ := h
  exact ⟨h5, h6, h4, rfl⟩
section
variable {w0 : World} {p g : Nat} {f0 : Nat → Int} {s : Tr} {I : Nat → Bool} {T0 : T}
set_option maxRecDepth 100000 in
set_option maxHeartbeats 8000000 in
theorem blacks_ok : ∀ (T1 : T) {w : World} {x q d n : Nat}, At s T1 x q → (∀ j, j ∈ T1.ns → N40 j) → Bal T1 n → deep T1 ≤ d → d ≤ 100 → Lx w0 w p g f0 s I T0 →
    Calls Tryd.prog 24 #[.pointer (some ⟨p, 0, none⟩), .int .i64 (32 * (x : Nat)), .int .i64 (d : Nat)] w fun e w' => e = .returned (.int .i64 (n : Nat)) ∧ Below w.heap.size w w'
  | .e, w, x, q, d, n, hA, _, hB, _, _, L => by
    have hx : x = 0 := hA
    have hn : n = 0 := hB
    subst hx; subst hn
    show Calls Tryd.prog 24 #[.pointer (some ⟨p, 0, none⟩), .int .i64 0, .int .i64 (d : Nat)] w fun e w' => e = .returned (.int .i64 0) ∧ _
    clear L hA
    go_enter Tryd.func24, Tryd.ntmps24
    go_wp2
    go_ret
    exact ⟨rfl, Below.refl _ _⟩
  | .n cc l k r, w, x, q, d, n, hA, hN, hB, hd, hm, L => by
    obtain ⟨hl, hr, hc, hxk⟩ := hA.sub
    subst hxk
    have hx0 : x ≠ 0 := hA.2.1
    obtain ⟨m, hmn, b1, b2, b3⟩ := hB
    have hdn := @deep_n cc l r x
    have hmd : m ≤ 100 := by have := bal_deep b1; omega
    have xN := hN x (by simp [T.ns])
    have IHl := Lib.hid (fun (w : World) (L : Lx w0 w p g f0 s I T0) => blacks_ok l (d := d - 1) (n := m) hl (fun j hj => hN j (by simp [T.ns, hj])) b1 (by omega) (by omega) L)
    have IHr := Lib.hid (fun (w : World) (L : Lx w0 w p g f0 s I T0) => blacks_ok r (d := d - 1) (n := m) hr (fun j hj => hN j (by simp [T.ns, hj])) b2 (by omega) (by omega) L)
    have em : ((d - 1 : Nat) : Int) = (d : Int) - 1 := by omega
    rw [em] at IHl IHr
    have zl : l.isE = decide (s.ch x false = 0) := isE_root hl
    have zr : r.isE = decide (s.ch x true = 0) := isE_root hr
    have nl : l.isE = false → N40 (s.ch x false) := fun h => by
      rcases at_root hl with ⟨e, _⟩ | ⟨hm, _⟩
      · rw [e] at h; cases h
      · exact hN _ (by simp [T.ns, hm])
    have nr : r.isE = false → N40 (s.ch x true) := fun h => by
      rcases at_root hr with ⟨e, _⟩ | ⟨hm, _⟩
      · rw [e] at h; cases h
      · exact hN _ (by simp [T.ns, hm])
    have cl := hl.col L.tx.td.zn
    have cr := hr.col L.tx.td.zn
    have C0 : ∀ w, Lx w0 w p g f0 s I T0 → Calls Tryd.prog 29 #[.pointer (some ⟨p, 0, none⟩), .int .i64 (32 * (x : Nat)), .bool false] w fun e w' => e = .returned (.tuple #[.int .i64 (32 * (s.ch x false : Nat)), .int .i64 0]) ∧ Below w.heap.size w w' := fun w L => L.child xN false rfl (by omega) (by omega)
    have C1 : ∀ w, Lx w0 w p g f0 s I T0 → Calls Tryd.prog 29 #[.pointer (some ⟨p, 0, none⟩), .int .i64 (32 * (x : Nat)), .bool true] w fun e w' => e = .returned (.tuple #[.int .i64 (32 * (s.ch x true : Nat)), .int .i64 0]) ∧ Below w.heap.size w w' := fun w L => L.child xN true rfl (by omega) (by omega)
    have RX : Hid (∀ w, Lx w0 w p g f0 s I T0 → Calls Tryd.prog 25 #[.pointer (some ⟨p, 0, none⟩), .int .i64 (32 * (x : Nat))] w fun e w' => e = .returned (.tuple #[.bool cc, .int .i64 0]) ∧ Below w.heap.size w w') := Lib.hid fun w L => L.red xN hc (by omega)
    have xq1 : (((x : Nat) : Int) == 0) = false := beq_eq_false_iff_ne.2 (by omega)
    have xq2 : ((32 * ((x : Nat) : Int)) == 0) = false := beq_eq_false_iff_ne.2 (by omega)
    have hx1 : ¬ (x : Nat) = 0 := hx0
    have hd0 : ¬ (d : Nat) = 0 := by omega
    have hdq : (((d : Nat) : Int) == 0) = false := beq_eq_false_iff_ne.2 (by omega)
    have hdw : IntKind.i64.wrap ((d : Int) - 1) = (d : Int) - 1 := IntWalk.i64_in _ (by omega)
    have hmw : IntKind.i64.wrap ((m : Int) + 1) = (m : Int) + 1 := IntWalk.i64_in _ (by omega)
    have HL := Lib.hid L
    have FR := Lib.hid (Below.refl w.heap.size w)
    obtain ⟨la, hla⟩ : ∃ la, la = s.ch x false := ⟨_, rfl⟩
    obtain ⟨ra, hra⟩ : ∃ ra, ra = s.ch x true := ⟨_, rfl⟩
    rw [← hla] at IHl C0 zl nl cl
    rw [← hra] at IHr C1 zr nr cr
    replace C0 := Lib.hid C0
    replace C1 := Lib.hid C1
    have HMN := Lib.hid hmn
    clear hA hl hr hc hN L em hd hmn hdn xN hx0 b1 b2 hla hra hmd hm
    cases cc with
    | false =>
      cases hl : l.isE with
      | true =>
        cases hr : r.isE with
        | true =>
          obtain rfl : la = 0 := by have := zl; rw [hl] at this; simpa using this.symm
          obtain rfl : ra = 0 := by have := zr; rw [hr] at this; simpa using this.symm
          have A0 : Hid (∀ w, Lx w0 w p g f0 s I T0 → Calls Tryd.prog 29 #[.pointer (some ⟨p, 0, none⟩), .int .i64 (32 * (x : Nat)), .bool false] w fun e w' => e = .returned (.tuple #[.int .i64 0, .int .i64 0]) ∧ Below w.heap.size w w') := C0
          have A1 : Hid (∀ w, Lx w0 w p g f0 s I T0 → Calls Tryd.prog 29 #[.pointer (some ⟨p, 0, none⟩), .int .i64 (32 * (x : Nat)), .bool true] w fun e w' => e = .returned (.tuple #[.int .i64 0, .int .i64 0]) ∧ Below w.heap.size w w') := C1
          have BL : Hid (∀ w, Lx w0 w p g f0 s I T0 → Calls Tryd.prog 24 #[.pointer (some ⟨p, 0, none⟩), .int .i64 0, .int .i64 ((d : Int) - 1)] w fun e w' => e = .returned (.int .i64 (m : Nat)) ∧ Below w.heap.size w w') := IHl
          have BR : Hid (∀ w, Lx w0 w p g f0 s I T0 → Calls Tryd.prog 24 #[.pointer (some ⟨p, 0, none⟩), .int .i64 0, .int .i64 ((d : Int) - 1)] w fun e w' => e = .returned (.int .i64 (m : Nat)) ∧ Below w.heap.size w w') := IHr
          have HNM : Hid (n = m + 1) := Lib.hid (by have := HMN.out; simpa using this)
          clear b3 cl cr nl nr zl zr hl hr
          go_enter Tryd.func24, Tryd.ntmps24
          go_wp2_with (first
            | (go_at_call 29; (with_reducible refine (A0.out _ HL.out).mono ?_); rintro e wc ⟨rfl, hb⟩; have HL := Lib.hid (HL.out.below hb); have FR := Lib.hid (FR.out.trans (hb.mono FR.out.size)); clear hb)
            | (go_at_call 29; (with_reducible refine (A1.out _ HL.out).mono ?_); rintro e wc ⟨rfl, hb⟩; have HL := Lib.hid (HL.out.below hb); have FR := Lib.hid (FR.out.trans (hb.mono FR.out.size)); clear hb)
            | (go_at_call 25; (with_reducible refine (RX.out _ HL.out).mono ?_); rintro e wc ⟨rfl, hb⟩; have HL := Lib.hid (HL.out.below hb); have FR := Lib.hid (FR.out.trans (hb.mono FR.out.size)); clear hb)
            | (go_at_call 24; (with_reducible refine (BL.out _ HL.out).mono ?_); rintro e wc ⟨rfl, hb⟩; have HL := Lib.hid (HL.out.below hb); have FR := Lib.hid (FR.out.trans (hb.mono FR.out.size)); clear hb)
            | (go_at_call 24; (with_reducible refine (BR.out _ HL.out).mono ?_); rintro e wc ⟨rfl, hb⟩; have HL := Lib.hid (HL.out.below hb); have FR := Lib.hid (FR.out.trans (hb.mono FR.out.size)); clear hb))
          go_ret
          rw [HNM.out]
          exact ⟨rfl, FR.out⟩
        | false =>
          obtain rfl : la = 0 := by have := zl; rw [hl] at this; simpa using this.symm
          have A0 : Hid (∀ w, Lx w0 w p g f0 s I T0 → Calls Tryd.prog 29 #[.pointer (some ⟨p, 0, none⟩), .int .i64 (32 * (x : Nat)), .bool false] w fun e w' => e = .returned (.tuple #[.int .i64 0, .int .i64 0]) ∧ Below w.heap.size w w') := C0
          have A1 : Hid (∀ w, Lx w0 w p g f0 s I T0 → Calls Tryd.prog 29 #[.pointer (some ⟨p, 0, none⟩), .int .i64 (32 * (x : Nat)), .bool true] w fun e w' => e = .returned (.tuple #[.int .i64 (32 * (ra : Nat)), .int .i64 0]) ∧ Below w.heap.size w w') := C1
          have BL : Hid (∀ w, Lx w0 w p g f0 s I T0 → Calls Tryd.prog 24 #[.pointer (some ⟨p, 0, none⟩), .int .i64 0, .int .i64 ((d : Int) - 1)] w fun e w' => e = .returned (.int .i64 (m : Nat)) ∧ Below w.heap.size w w') := IHl
          have BR : Hid (∀ w, Lx w0 w p g f0 s I T0 → Calls Tryd.prog 24 #[.pointer (some ⟨p, 0, none⟩), .int .i64 (32 * (ra : Nat)), .int .i64 ((d : Int) - 1)] w fun e w' => e = .returned (.int .i64 (m : Nat)) ∧ Below w.heap.size w w') := IHr
          have nra := nr hr
          have Rr : Hid (∀ w, Lx w0 w p g f0 s I T0 → Calls Tryd.prog 25 #[.pointer (some ⟨p, 0, none⟩), .int .i64 (32 * (ra : Nat))] w fun e w' => e = .returned (.tuple #[.bool r.red, .int .i64 0]) ∧ Below w.heap.size w w') := Lib.hid fun w L => L.red nra cr (by omega)
          have ra1 : ¬ ra = 0 := by have := nra.1; omega
          have raq : (((ra : Nat) : Int) == 0) = false := beq_eq_false_iff_ne.2 (by omega)
          have rar : ((32 * ((ra : Nat) : Int)) == 0) = false := beq_eq_false_iff_ne.2 (by omega)
          have HNM : Hid (n = m + 1) := Lib.hid (by have := HMN.out; simpa using this)
          clear b3 cl cr nl nr zl zr hl hr nra
          go_enter Tryd.func24, Tryd.ntmps24
          go_wp2_with (first
            | (go_at_call 29; (with_reducible refine (A0.out _ HL.out).mono ?_); rintro e wc ⟨rfl, hb⟩; have HL := Lib.hid (HL.out.below hb); have FR := Lib.hid (FR.out.trans (hb.mono FR.out.size)); clear hb)
            | (go_at_call 29; (with_reducible refine (A1.out _ HL.out).mono ?_); rintro e wc ⟨rfl, hb⟩; have HL := Lib.hid (HL.out.below hb); have FR := Lib.hid (FR.out.trans (hb.mono FR.out.size)); clear hb)
            | (go_at_call 25; (with_reducible refine (RX.out _ HL.out).mono ?_); rintro e wc ⟨rfl, hb⟩; have HL := Lib.hid (HL.out.below hb); have FR := Lib.hid (FR.out.trans (hb.mono FR.out.size)); clear hb)
            | (go_at_call 25; (with_reducible refine (Rr.out _ HL.out).mono ?_); rintro e wc ⟨rfl, hb⟩; have HL := Lib.hid (HL.out.below hb); have FR := Lib.hid (FR.out.trans (hb.mono FR.out.size)); clear hb)
            | (go_at_call 24; (with_reducible refine (BL.out _ HL.out).mono ?_); rintro e wc ⟨rfl, hb⟩; have HL := Lib.hid (HL.out.below hb); have FR := Lib.hid (FR.out.trans (hb.mono FR.out.size)); clear hb)
            | (go_at_call 24; (with_reducible refine (BR.out _ HL.out).mono ?_); rintro e wc ⟨rfl, hb⟩; have HL := Lib.hid (HL.out.below hb); have FR := Lib.hid (FR.out.trans (hb.mono FR.out.size)); clear hb))
          go_ret
          rw [HNM.out]
          exact ⟨rfl, FR.out⟩
      | false =>
        cases hr : r.isE with
        | true =>
          obtain rfl : ra = 0 := by have := zr; rw [hr] at this; simpa using this.symm
          have A0 : Hid (∀ w, Lx w0 w p g f0 s I T0 → Calls Tryd.prog 29 #[.pointer (some ⟨p, 0, none⟩), .int .i64 (32 * (x : Nat)), .bool false] w fun e w' => e = .returned (.tuple #[.int .i64 (32 * (la : Nat)), .int .i64 0]) ∧ Below w.heap.size w w') := C0
          have A1 : Hid (∀ w, Lx w0 w p g f0 s I T0 → Calls Tryd.prog 29 #[.pointer (some ⟨p, 0, none⟩), .int .i64 (32 * (x : Nat)), .bool true] w fun e w' => e = .returned (.tuple #[.int .i64 0, .int .i64 0]) ∧ Below w.heap.size w w') := C1
          have BL : Hid (∀ w, Lx w0 w p g f0 s I T0 → Calls Tryd.prog 24 #[.pointer (some ⟨p, 0, none⟩), .int .i64 (32 * (la : Nat)), .int .i64 ((d : Int) - 1)] w fun e w' => e = .returned (.int .i64 (m : Nat)) ∧ Below w.heap.size w w') := IHl
          have BR : Hid (∀ w, Lx w0 w p g f0 s I T0 → Calls Tryd.prog 24 #[.pointer (some ⟨p, 0, none⟩), .int .i64 0, .int .i64 ((d : Int) - 1)] w fun e w' => e = .returned (.int .i64 (m : Nat)) ∧ Below w.heap.size w w') := IHr
          have nla := nl hl
          have Rl : Hid (∀ w, Lx w0 w p g f0 s I T0 → Calls Tryd.prog 25 #[.pointer (some ⟨p, 0, none⟩), .int .i64 (32 * (la : Nat))] w fun e w' => e = .returned (.tuple #[.bool l.red, .int .i64 0]) ∧ Below w.heap.size w w') := Lib.hid fun w L => L.red nla cl (by omega)
          have la1 : ¬ la = 0 := by have := nla.1; omega
          have laq : (((la : Nat) : Int) == 0) = false := beq_eq_false_iff_ne.2 (by omega)
          have lar : ((32 * ((la : Nat) : Int)) == 0) = false := beq_eq_false_iff_ne.2 (by omega)
          have HNM : Hid (n = m + 1) := Lib.hid (by have := HMN.out; simpa using this)
          clear b3 cl cr nl nr zl zr hl hr nla
          go_enter Tryd.func24, Tryd.ntmps24
          go_wp2_with (first
            | (go_at_call 29; (with_reducible refine (A0.out _ HL.out).mono ?_); rintro e wc ⟨rfl, hb⟩; have HL := Lib.hid (HL.out.below hb); have FR := Lib.hid (FR.out.trans (hb.mono FR.out.size)); clear hb)
            | (go_at_call 29; (with_reducible refine (A1.out _ HL.out).mono ?_); rintro e wc ⟨rfl, hb⟩; have HL := Lib.hid (HL.out.below hb); have FR := Lib.hid (FR.out.trans (hb.mono FR.out.size)); clear hb)
            | (go_at_call 25; (with_reducible refine (RX.out _ HL.out).mono ?_); rintro e wc ⟨rfl, hb⟩; have HL := Lib.hid (HL.out.below hb); have FR := Lib.hid (FR.out.trans (hb.mono FR.out.size)); clear hb)
            | (go_at_call 25; (with_reducible refine (Rl.out _ HL.out).mono ?_); rintro e wc ⟨rfl, hb⟩; have HL := Lib.hid (HL.out.below hb); have FR := Lib.hid (FR.out.trans (hb.mono FR.out.size)); clear hb)
            | (go_at_call 24; (with_reducible refine (BL.out _ HL.out).mono ?_); rintro e wc ⟨rfl, hb⟩; have HL := Lib.hid (HL.out.below hb); have FR := Lib.hid (FR.out.trans (hb.mono FR.out.size)); clear hb)
            | (go_at_call 24; (with_reducible refine (BR.out _ HL.out).mono ?_); rintro e wc ⟨rfl, hb⟩; have HL := Lib.hid (HL.out.below hb); have FR := Lib.hid (FR.out.trans (hb.mono FR.out.size)); clear hb))
          go_ret
          rw [HNM.out]
          exact ⟨rfl, FR.out⟩
        | false =>
          have A0 : Hid (∀ w, Lx w0 w p g f0 s I T0 → Calls Tryd.prog 29 #[.pointer (some ⟨p, 0, none⟩), .int .i64 (32 * (x : Nat)), .bool false] w fun e w' => e = .returned (.tuple #[.int .i64 (32 * (la : Nat)), .int .i64 0]) ∧ Below w.heap.size w w') := C0
          have A1 : Hid (∀ w, Lx w0 w p g f0 s I T0 → Calls Tryd.prog 29 #[.pointer (some ⟨p, 0, none⟩), .int .i64 (32 * (x : Nat)), .bool true] w fun e w' => e = .returned (.tuple #[.int .i64 (32 * (ra : Nat)), .int .i64 0]) ∧ Below w.heap.size w w') := C1
          have BL : Hid (∀ w, Lx w0 w p g f0 s I T0 → Calls Tryd.prog 24 #[.pointer (some ⟨p, 0, none⟩), .int .i64 (32 * (la : Nat)), .int .i64 ((d : Int) - 1)] w fun e w' => e = .returned (.int .i64 (m : Nat)) ∧ Below w.heap.size w w') := IHl
          have BR : Hid (∀ w, Lx w0 w p g f0 s I T0 → Calls Tryd.prog 24 #[.pointer (some ⟨p, 0, none⟩), .int .i64 (32 * (ra : Nat)), .int .i64 ((d : Int) - 1)] w fun e w' => e = .returned (.int .i64 (m : Nat)) ∧ Below w.heap.size w w') := IHr
          have nla := nl hl
          have Rl : Hid (∀ w, Lx w0 w p g f0 s I T0 → Calls Tryd.prog 25 #[.pointer (some ⟨p, 0, none⟩), .int .i64 (32 * (la : Nat))] w fun e w' => e = .returned (.tuple #[.bool l.red, .int .i64 0]) ∧ Below w.heap.size w w') := Lib.hid fun w L => L.red nla cl (by omega)
          have la1 : ¬ la = 0 := by have := nla.1; omega
          have laq : (((la : Nat) : Int) == 0) = false := beq_eq_false_iff_ne.2 (by omega)
          have lar : ((32 * ((la : Nat) : Int)) == 0) = false := beq_eq_false_iff_ne.2 (by omega)
          have nra := nr hr
          have Rr : Hid (∀ w, Lx w0 w p g f0 s I T0 → Calls Tryd.prog 25 #[.pointer (some ⟨p, 0, none⟩), .int .i64 (32 * (ra : Nat))] w fun e w' => e = .returned (.tuple #[.bool r.red, .int .i64 0]) ∧ Below w.heap.size w w') := Lib.hid fun w L => L.red nra cr (by omega)
          have ra1 : ¬ ra = 0 := by have := nra.1; omega
          have raq : (((ra : Nat) : Int) == 0) = false := beq_eq_false_iff_ne.2 (by omega)
          have rar : ((32 * ((ra : Nat) : Int)) == 0) = false := beq_eq_false_iff_ne.2 (by omega)
          have HNM : Hid (n = m + 1) := Lib.hid (by have := HMN.out; simpa using this)
          clear b3 cl cr nl nr zl zr hl hr nla nra
          go_enter Tryd.func24, Tryd.ntmps24
          go_wp2_with (first
            | (go_at_call 29; (with_reducible refine (A0.out _ HL.out).mono ?_); rintro e wc ⟨rfl, hb⟩; have HL := Lib.hid (HL.out.below hb); have FR := Lib.hid (FR.out.trans (hb.mono FR.out.size)); clear hb)
            | (go_at_call 29; (with_reducible refine (A1.out _ HL.out).mono ?_); rintro e wc ⟨rfl, hb⟩; have HL := Lib.hid (HL.out.below hb); have FR := Lib.hid (FR.out.trans (hb.mono FR.out.size)); clear hb)
            | (go_at_call 25; (with_reducible refine (RX.out _ HL.out).mono ?_); rintro e wc ⟨rfl, hb⟩; have HL := Lib.hid (HL.out.below hb); have FR := Lib.hid (FR.out.trans (hb.mono FR.out.size)); clear hb)
            | (go_at_call 25; (with_reducible refine (Rl.out _ HL.out).mono ?_); rintro e wc ⟨rfl, hb⟩; have HL := Lib.hid (HL.out.below hb); have FR := Lib.hid (FR.out.trans (hb.mono FR.out.size)); clear hb)
            | (go_at_call 25; (with_reducible refine (Rr.out _ HL.out).mono ?_); rintro e wc ⟨rfl, hb⟩; have HL := Lib.hid (HL.out.below hb); have FR := Lib.hid (FR.out.trans (hb.mono FR.out.size)); clear hb)
            | (go_at_call 24; (with_reducible refine (BL.out _ HL.out).mono ?_); rintro e wc ⟨rfl, hb⟩; have HL := Lib.hid (HL.out.below hb); have FR := Lib.hid (FR.out.trans (hb.mono FR.out.size)); clear hb)
            | (go_at_call 24; (with_reducible refine (BR.out _ HL.out).mono ?_); rintro e wc ⟨rfl, hb⟩; have HL := Lib.hid (HL.out.below hb); have FR := Lib.hid (FR.out.trans (hb.mono FR.out.size)); clear hb))
          go_ret
          rw [HNM.out]
          exact ⟨rfl, FR.out⟩
    | true =>
      cases hl : l.isE with
      | true =>
        cases hr : r.isE with
        | true =>
          obtain rfl : la = 0 := by have := zl; rw [hl] at this; simpa using this.symm
          obtain rfl : ra = 0 := by have := zr; rw [hr] at this; simpa using this.symm
          have A0 : Hid (∀ w, Lx w0 w p g f0 s I T0 → Calls Tryd.prog 29 #[.pointer (some ⟨p, 0, none⟩), .int .i64 (32 * (x : Nat)), .bool false] w fun e w' => e = .returned (.tuple #[.int .i64 0, .int .i64 0]) ∧ Below w.heap.size w w') := C0
          have A1 : Hid (∀ w, Lx w0 w p g f0 s I T0 → Calls Tryd.prog 29 #[.pointer (some ⟨p, 0, none⟩), .int .i64 (32 * (x : Nat)), .bool true] w fun e w' => e = .returned (.tuple #[.int .i64 0, .int .i64 0]) ∧ Below w.heap.size w w') := C1
          have BL : Hid (∀ w, Lx w0 w p g f0 s I T0 → Calls Tryd.prog 24 #[.pointer (some ⟨p, 0, none⟩), .int .i64 0, .int .i64 ((d : Int) - 1)] w fun e w' => e = .returned (.int .i64 (m : Nat)) ∧ Below w.heap.size w w') := IHl
          have BR : Hid (∀ w, Lx w0 w p g f0 s I T0 → Calls Tryd.prog 24 #[.pointer (some ⟨p, 0, none⟩), .int .i64 0, .int .i64 ((d : Int) - 1)] w fun e w' => e = .returned (.int .i64 (m : Nat)) ∧ Below w.heap.size w w') := IHr
          have HNM : Hid (n = m) := Lib.hid (by have := HMN.out; simpa using this)
          clear b3 cl cr nl nr zl zr hl hr
          go_enter Tryd.func24, Tryd.ntmps24
          go_wp2_with (first
            | (go_at_call 29; (with_reducible refine (A0.out _ HL.out).mono ?_); rintro e wc ⟨rfl, hb⟩; have HL := Lib.hid (HL.out.below hb); have FR := Lib.hid (FR.out.trans (hb.mono FR.out.size)); clear hb)
            | (go_at_call 29; (with_reducible refine (A1.out _ HL.out).mono ?_); rintro e wc ⟨rfl, hb⟩; have HL := Lib.hid (HL.out.below hb); have FR := Lib.hid (FR.out.trans (hb.mono FR.out.size)); clear hb)
            | (go_at_call 25; (with_reducible refine (RX.out _ HL.out).mono ?_); rintro e wc ⟨rfl, hb⟩; have HL := Lib.hid (HL.out.below hb); have FR := Lib.hid (FR.out.trans (hb.mono FR.out.size)); clear hb)
            | (go_at_call 24; (with_reducible refine (BL.out _ HL.out).mono ?_); rintro e wc ⟨rfl, hb⟩; have HL := Lib.hid (HL.out.below hb); have FR := Lib.hid (FR.out.trans (hb.mono FR.out.size)); clear hb)
            | (go_at_call 24; (with_reducible refine (BR.out _ HL.out).mono ?_); rintro e wc ⟨rfl, hb⟩; have HL := Lib.hid (HL.out.below hb); have FR := Lib.hid (FR.out.trans (hb.mono FR.out.size)); clear hb))
          go_ret
          rw [HNM.out]
          exact ⟨rfl, FR.out⟩
        | false =>
          obtain rfl : la = 0 := by have := zl; rw [hl] at this; simpa using this.symm
          have A0 : Hid (∀ w, Lx w0 w p g f0 s I T0 → Calls Tryd.prog 29 #[.pointer (some ⟨p, 0, none⟩), .int .i64 (32 * (x : Nat)), .bool false] w fun e w' => e = .returned (.tuple #[.int .i64 0, .int .i64 0]) ∧ Below w.heap.size w w') := C0
          have A1 : Hid (∀ w, Lx w0 w p g f0 s I T0 → Calls Tryd.prog 29 #[.pointer (some ⟨p, 0, none⟩), .int .i64 (32 * (x : Nat)), .bool true] w fun e w' => e = .returned (.tuple #[.int .i64 (32 * (ra : Nat)), .int .i64 0]) ∧ Below w.heap.size w w') := C1
          have BL : Hid (∀ w, Lx w0 w p g f0 s I T0 → Calls Tryd.prog 24 #[.pointer (some ⟨p, 0, none⟩), .int .i64 0, .int .i64 ((d : Int) - 1)] w fun e w' => e = .returned (.int .i64 (m : Nat)) ∧ Below w.heap.size w w') := IHl
          have BR : Hid (∀ w, Lx w0 w p g f0 s I T0 → Calls Tryd.prog 24 #[.pointer (some ⟨p, 0, none⟩), .int .i64 (32 * (ra : Nat)), .int .i64 ((d : Int) - 1)] w fun e w' => e = .returned (.int .i64 (m : Nat)) ∧ Below w.heap.size w w') := IHr
          have nra := nr hr
          have Rr : Hid (∀ w, Lx w0 w p g f0 s I T0 → Calls Tryd.prog 25 #[.pointer (some ⟨p, 0, none⟩), .int .i64 (32 * (ra : Nat))] w fun e w' => e = .returned (.tuple #[.bool false, .int .i64 0]) ∧ Below w.heap.size w w') := Lib.hid fun w L => L.red nra (cr.trans (b3 rfl).2) (by omega)
          have ra1 : ¬ ra = 0 := by have := nra.1; omega
          have raq : (((ra : Nat) : Int) == 0) = false := beq_eq_false_iff_ne.2 (by omega)
          have rar : ((32 * ((ra : Nat) : Int)) == 0) = false := beq_eq_false_iff_ne.2 (by omega)
          have HNM : Hid (n = m) := Lib.hid (by have := HMN.out; simpa using this)
          clear b3 cl cr nl nr zl zr hl hr nra
          go_enter Tryd.func24, Tryd.ntmps24
          go_wp2_with (first
            | (go_at_call 29; (with_reducible refine (A0.out _ HL.out).mono ?_); rintro e wc ⟨rfl, hb⟩; have HL := Lib.hid (HL.out.below hb); have FR := Lib.hid (FR.out.trans (hb.mono FR.out.size)); clear hb)
            | (go_at_call 29; (with_reducible refine (A1.out _ HL.out).mono ?_); rintro e wc ⟨rfl, hb⟩; have HL := Lib.hid (HL.out.below hb); have FR := Lib.hid (FR.out.trans (hb.mono FR.out.size)); clear hb)
            | (go_at_call 25; (with_reducible refine (RX.out _ HL.out).mono ?_); rintro e wc ⟨rfl, hb⟩; have HL := Lib.hid (HL.out.below hb); have FR := Lib.hid (FR.out.trans (hb.mono FR.out.size)); clear hb)
            | (go_at_call 25; (with_reducible refine (Rr.out _ HL.out).mono ?_); rintro e wc ⟨rfl, hb⟩; have HL := Lib.hid (HL.out.below hb); have FR := Lib.hid (FR.out.trans (hb.mono FR.out.size)); clear hb)
            | (go_at_call 24; (with_reducible refine (BL.out _ HL.out).mono ?_); rintro e wc ⟨rfl, hb⟩; have HL := Lib.hid (HL.out.below hb); have FR := Lib.hid (FR.out.trans (hb.mono FR.out.size)); clear hb)
            | (go_at_call 24; (with_reducible refine (BR.out _ HL.out).mono ?_); rintro e wc ⟨rfl, hb⟩; have HL := Lib.hid (HL.out.below hb); have FR := Lib.hid (FR.out.trans (hb.mono FR.out.size)); clear hb))
          go_ret
          rw [HNM.out]
          exact ⟨rfl, FR.out⟩
      | false =>
        cases hr : r.isE with
        | true =>
          obtain rfl : ra = 0 := by have := zr; rw [hr] at this; simpa using this.symm
          have A0 : Hid (∀ w, Lx w0 w p g f0 s I T0 → Calls Tryd.prog 29 #[.pointer (some ⟨p, 0, none⟩), .int .i64 (32 * (x : Nat)), .bool false] w fun e w' => e = .returned (.tuple #[.int .i64 (32 * (la : Nat)), .int .i64 0]) ∧ Below w.heap.size w w') := C0
          have A1 : Hid (∀ w, Lx w0 w p g f0 s I T0 → Calls Tryd.prog 29 #[.pointer (some ⟨p, 0, none⟩), .int .i64 (32 * (x : Nat)), .bool true] w fun e w' => e = .returned (.tuple #[.int .i64 0, .int .i64 0]) ∧ Below w.heap.size w w') := C1
          have BL : Hid (∀ w, Lx w0 w p g f0 s I T0 → Calls Tryd.prog 24 #[.pointer (some ⟨p, 0, none⟩), .int .i64 (32 * (la : Nat)), .int .i64 ((d : Int) - 1)] w fun e w' => e = .returned (.int .i64 (m : Nat)) ∧ Below w.heap.size w w') := IHl
          have BR : Hid (∀ w, Lx w0 w p g f0 s I T0 → Calls Tryd.prog 24 #[.pointer (some ⟨p, 0, none⟩), .int .i64 0, .int .i64 ((d : Int) - 1)] w fun e w' => e = .returned (.int .i64 (m : Nat)) ∧ Below w.heap.size w w') := IHr
          have nla := nl hl
          have Rl : Hid (∀ w, Lx w0 w p g f0 s I T0 → Calls Tryd.prog 25 #[.pointer (some ⟨p, 0, none⟩), .int .i64 (32 * (la : Nat))] w fun e w' => e = .returned (.tuple #[.bool false, .int .i64 0]) ∧ Below w.heap.size w w') := Lib.hid fun w L => L.red nla (cl.trans (b3 rfl).1) (by omega)
          have la1 : ¬ la = 0 := by have := nla.1; omega
          have laq : (((la : Nat) : Int) == 0) = false := beq_eq_false_iff_ne.2 (by omega)
          have lar : ((32 * ((la : Nat) : Int)) == 0) = false := beq_eq_false_iff_ne.2 (by omega)
          have HNM : Hid (n = m) := Lib.hid (by have := HMN.out; simpa using this)
          clear b3 cl cr nl nr zl zr hl hr nla
          go_enter Tryd.func24, Tryd.ntmps24
          go_wp2_with (first
            | (go_at_call 29; (with_reducible refine (A0.out _ HL.out).mono ?_); rintro e wc ⟨rfl, hb⟩; have HL := Lib.hid (HL.out.below hb); have FR := Lib.hid (FR.out.trans (hb.mono FR.out.size)); clear hb)
            | (go_at_call 29; (with_reducible refine (A1.out _ HL.out).mono ?_); rintro e wc ⟨rfl, hb⟩; have HL := Lib.hid (HL.out.below hb); have FR := Lib.hid (FR.out.trans (hb.mono FR.out.size)); clear hb)
            | (go_at_call 25; (with_reducible refine (RX.out _ HL.out).mono ?_); rintro e wc ⟨rfl, hb⟩; have HL := Lib.hid (HL.out.below hb); have FR := Lib.hid (FR.out.trans (hb.mono FR.out.size)); clear hb)
            | (go_at_call 25; (with_reducible refine (Rl.out _ HL.out).mono ?_); rintro e wc ⟨rfl, hb⟩; have HL := Lib.hid (HL.out.below hb); have FR := Lib.hid (FR.out.trans (hb.mono FR.out.size)); clear hb)
            | (go_at_call 24; (with_reducible refine (BL.out _ HL.out).mono ?_); rintro e wc ⟨rfl, hb⟩; have HL := Lib.hid (HL.out.below hb); have FR := Lib.hid (FR.out.trans (hb.mono FR.out.size)); clear hb)
            | (go_at_call 24; (with_reducible refine (BR.out _ HL.out).mono ?_); rintro e wc ⟨rfl, hb⟩; have HL := Lib.hid (HL.out.below hb); have FR := Lib.hid (FR.out.trans (hb.mono FR.out.size)); clear hb))
          go_ret
          rw [HNM.out]
          exact ⟨rfl, FR.out⟩
        | false =>
          have A0 : Hid (∀ w, Lx w0 w p g f0 s I T0 → Calls Tryd.prog 29 #[.pointer (some ⟨p, 0, none⟩), .int .i64 (32 * (x : Nat)), .bool false] w fun e w' => e = .returned (.tuple #[.int .i64 (32 * (la : Nat)), .int .i64 0]) ∧ Below w.heap.size w w') := C0
          have A1 : Hid (∀ w, Lx w0 w p g f0 s I T0 → Calls Tryd.prog 29 #[.pointer (some ⟨p, 0, none⟩), .int .i64 (32 * (x : Nat)), .bool true] w fun e w' => e = .returned (.tuple #[.int .i64 (32 * (ra : Nat)), .int .i64 0]) ∧ Below w.heap.size w w') := C1
          have BL : Hid (∀ w, Lx w0 w p g f0 s I T0 → Calls Tryd.prog 24 #[.pointer (some ⟨p, 0, none⟩), .int .i64 (32 * (la : Nat)), .int .i64 ((d : Int) - 1)] w fun e w' => e = .returned (.int .i64 (m : Nat)) ∧ Below w.heap.size w w') := IHl
          have BR : Hid (∀ w, Lx w0 w p g f0 s I T0 → Calls Tryd.prog 24 #[.pointer (some ⟨p, 0, none⟩), .int .i64 (32 * (ra : Nat)), .int .i64 ((d : Int) - 1)] w fun e w' => e = .returned (.int .i64 (m : Nat)) ∧ Below w.heap.size w w') := IHr
          have nla := nl hl
          have Rl : Hid (∀ w, Lx w0 w p g f0 s I T0 → Calls Tryd.prog 25 #[.pointer (some ⟨p, 0, none⟩), .int .i64 (32 * (la : Nat))] w fun e w' => e = .returned (.tuple #[.bool false, .int .i64 0]) ∧ Below w.heap.size w w') := Lib.hid fun w L => L.red nla (cl.trans (b3 rfl).1) (by omega)
          have la1 : ¬ la = 0 := by have := nla.1; omega
          have laq : (((la : Nat) : Int) == 0) = false := beq_eq_false_iff_ne.2 (by omega)
          have lar : ((32 * ((la : Nat) : Int)) == 0) = false := beq_eq_false_iff_ne.2 (by omega)
          have nra := nr hr
          have Rr : Hid (∀ w, Lx w0 w p g f0 s I T0 → Calls Tryd.prog 25 #[.pointer (some ⟨p, 0, none⟩), .int .i64 (32 * (ra : Nat))] w fun e w' => e = .returned (.tuple #[.bool false, .int .i64 0]) ∧ Below w.heap.size w w') := Lib.hid fun w L => L.red nra (cr.trans (b3 rfl).2) (by omega)
          have ra1 : ¬ ra = 0 := by have := nra.1; omega
          have raq : (((ra : Nat) : Int) == 0) = false := beq_eq_false_iff_ne.2 (by omega)
          have rar : ((32 * ((ra : Nat) : Int)) == 0) = false := beq_eq_false_iff_ne.2 (by omega)
          have HNM : Hid (n = m) := Lib.hid (by have := HMN.out; simpa using this)
          clear b3 cl cr nl nr zl zr hl hr nla nra
          go_enter Tryd.func24, Tryd.ntmps24
          go_wp2_with (first
            | (go_at_call 29; (with_reducible refine (A0.out _ HL.out).mono ?_); rintro e wc ⟨rfl, hb⟩; have HL := Lib.hid (HL.out.below hb); have FR := Lib.hid (FR.out.trans (hb.mono FR.out.size)); clear hb)
            | (go_at_call 29; (with_reducible refine (A1.out _ HL.out).mono ?_); rintro e wc ⟨rfl, hb⟩; have HL := Lib.hid (HL.out.below hb); have FR := Lib.hid (FR.out.trans (hb.mono FR.out.size)); clear hb)
            | (go_at_call 25; (with_reducible refine (RX.out _ HL.out).mono ?_); rintro e wc ⟨rfl, hb⟩; have HL := Lib.hid (HL.out.below hb); have FR := Lib.hid (FR.out.trans (hb.mono FR.out.size)); clear hb)
            | (go_at_call 25; (with_reducible refine (Rl.out _ HL.out).mono ?_); rintro e wc ⟨rfl, hb⟩; have HL := Lib.hid (HL.out.below hb); have FR := Lib.hid (FR.out.trans (hb.mono FR.out.size)); clear hb)
            | (go_at_call 25; (with_reducible refine (Rr.out _ HL.out).mono ?_); rintro e wc ⟨rfl, hb⟩; have HL := Lib.hid (HL.out.below hb); have FR := Lib.hid (FR.out.trans (hb.mono FR.out.size)); clear hb)
            | (go_at_call 24; (with_reducible refine (BL.out _ HL.out).mono ?_); rintro e wc ⟨rfl, hb⟩; have HL := Lib.hid (HL.out.below hb); have FR := Lib.hid (FR.out.trans (hb.mono FR.out.size)); clear hb)
            | (go_at_call 24; (with_reducible refine (BR.out _ HL.out).mono ?_); rintro e wc ⟨rfl, hb⟩; have HL := Lib.hid (HL.out.below hb); have FR := Lib.hid (FR.out.trans (hb.mono FR.out.size)); clear hb))
          go_ret
          rw [HNM.out]
          exact ⟨rfl, FR.out⟩
end
end Go.Proofs.YtiacclmapicmdaaDoor
