/- The document's example ('shown'): it returns true, and nothing that was there has turned; what the laws ask of a tree by going down it. Condition: the table of widths lies in its block. -/
import Derived.Test.YtiacclmapicmdaaDoorTrLaw
namespace Go.Proofs.YtiacclmapicmdaaDoor
open Go.RowKit

abbrev X3 : List Nat := [1, 2, 3]
abbrev G1 : T := .n false .e 1 .e
abbrev G2 : T := .n false .e 1 (.n true .e 2 .e)
abbrev G3 : T := .n false (.n true .e 1 .e) 2 (.n true .e 3 .e)
abbrev G4 : T := .n false (.n true .e 1 .e) 3 .e
theorem g1 : addT (keyOf X3) 1 .e = G1 := by rfl
theorem g2 : addT (keyOf X3) 2 G1 = G2 := by rfl
theorem g3 : addT (keyOf X3) 3 G2 = G3 := by rfl
theorem g4 : delAt [] G3 = G4 := by rfl
theorem n40_1 : N40 1 := ⟨by decide, by decide⟩
theorem n40_2 : N40 2 := ⟨by decide, by decide⟩
theorem n40_3 : N40 3 := ⟨by decide, by decide⟩
def lx (w0 : World) (p g : Nat) (T0 : T) (w : World) : Prop := Lw w0 w p g (kf X3 3) T0
set_option maxRecDepth 100000 in
set_option maxHeartbeats 4000000 in
theorem shown_any11 {w : World} (hT : Tab w) (hB : 0 < w.heap.size) : Calls Tryd.prog 9 #[] w fun e w' => e = .returned (.bool true) ∧ Below w.heap.size w w' := by
  obtain ⟨w1, hw1⟩ : ∃ w1, w1 = w.alloc (.cells #[.int .u64 1, .int .u64 2, .int .u64 3] 52) := ⟨_, rfl⟩
  have b1 : Below w.heap.size w w1 := by rw [hw1]; exact below_one w _
  have k1 : Blk w1 w.heap.size 52 #[.int .u64 1, .int .u64 2, .int .u64 3] := by rw [hw1]; exact Blk.new _ _ _
  have KZ : Kz w1 (some ⟨w.heap.size, 0, none⟩) X3 := fun i x hx => by
    refine ⟨w.heap.size, 0, rfl, k1.lt, ?_, ?_⟩
    · rw [Nat.zero_add, k1.cell i]
      match i, hx with
      | 0, hx => simp at hx; subst hx; rfl
      | 1, hx => simp at hx; subst hx; rfl
      | 2, hx => simp at hx; subst hx; rfl
    · match i, hx with
      | 0, hx => simp at hx; omega
      | 1, hx => simp at hx; omega
      | 2, hx => simp at hx; omega
  have FR := Lib.hid (fresh_any (w0 := w) (hT.below b1 hB) (Nat.lt_of_lt_of_le hB b1.size) b1 KZ rfl (Nat.le_refl 3) (by decide))
  have B1 := Lib.hid b1
  have HW := Lib.hid hw1
  have LF1 : ∀ w, Calls Tryd.prog 14 #[.int .i64 1] w fun e w' => e = .returned (.int .i64 32) ∧ w = w' := fun w => leaf_int 1 32 (by decide) (by decide) w
  have LF2 : ∀ w, Calls Tryd.prog 14 #[.int .i64 2] w fun e w' => e = .returned (.int .i64 64) ∧ w = w' := fun w => leaf_int 2 64 (by decide) (by decide) w
  have LF3 : ∀ w, Calls Tryd.prog 14 #[.int .i64 3] w fun e w' => e = .returned (.int .i64 96) ∧ w = w' := fun w => leaf_int 3 96 (by decide) (by decide) w
  replace LF1 := Lib.hid LF1
  replace LF2 := Lib.hid LF2
  replace LF3 := Lib.hid LF3
  clear hT b1 k1 KZ hw1
  go_enter Tryd.func9, Tryd.ntmps9
  go_wp2_with fail
  rw [← HW.out]
  refine FR.out.mono ?_
  rintro e w2 ⟨p, g, rfl, hL, hb2⟩
  have KY : Hid (Ky (mkC p g (kf X3 3)) (-8) (keyOf X3)) := Lib.hid (ky40 p g X3 (by intro x hx; simp [X3] at hx; omega))
  have L0 : Hid (Lw w w2 p g (kf X3 3) .e) := Lib.hid ⟨_, _, hL⟩
  clear hL hb2
  have P1 : Hid (Calls Tryd.prog 16 #[.pointer (some ⟨p, 0, none⟩), .int .i64 8, .int .i64 32, .int .i64 (-8)] w2 fun e w' => e = .returned (.int .i64 0) ∧ Lw w w' p g (kf X3 3) G1 ∧ Fg g w2 w') := Lib.hid (by
    have := L0.out.add_ok KY.out (k := 1) (a := 32) n40_1 (by simp [T.ns]) (by decide)
    rwa [g1] at this)
  go_wp2_with (first
    | (go_at_call 14; (with_reducible refine (LF1.out _).mono ?_); rintro e wc ⟨rfl, rfl⟩)
    | (go_at_call 16; (with_reducible refine P1.out.mono ?_); rintro e w3 ⟨rfl, hL, hf⟩; have L1 := Lib.hid hL; clear hL hf; skip; have P2 : Hid (Calls Tryd.prog 16 #[.pointer (some ⟨p, 0, none⟩), .int .i64 8, .int .i64 64, .int .i64 (-8)] w3 fun e w' => e = .returned (.int .i64 0) ∧ Lw w w' p g (kf X3 3) G2 ∧ Fg g w3 w') := (Lib.hid (g2 ▸ L1.out.add_ok KY.out (k := 2) (a := 64) n40_2 (by simp [T.ns]) (by decide))))
    | (go_at_call 14; (with_reducible refine (LF2.out _).mono ?_); rintro e wc ⟨rfl, rfl⟩)
    | (go_at_call 16; (with_reducible refine P2.out.mono ?_); rintro e w4 ⟨rfl, hL, hf⟩; have L2 := Lib.hid hL; clear hL hf; have P3 : Hid (Calls Tryd.prog 16 #[.pointer (some ⟨p, 0, none⟩), .int .i64 8, .int .i64 96, .int .i64 (-8)] w4 fun e w' => e = .returned (.int .i64 0) ∧ Lw w w' p g (kf X3 3) G3 ∧ Fg g w4 w') := (Lib.hid (g3 ▸ L2.out.add_ok KY.out (k := 3) (a := 96) n40_3 (by simp [T.ns]) (by decide))))
    | (go_at_call 14; (with_reducible refine (LF3.out _).mono ?_); rintro e wc ⟨rfl, rfl⟩)
    | (go_at_call 16; (with_reducible refine P3.out.mono ?_); rintro e w5 ⟨rfl, hL, hf⟩; obtain ⟨s5, I5, hX⟩ := hL; have X5 := Lib.hid hX; clear hX hf)
    | (go_at_call 23; (with_reducible refine (X5.out.root (a := 64) (by decide)).mono ?_); rintro e w6 ⟨rfl, hb⟩; have X6 := Lib.hid (X5.out.below hb); have C6 : Hid (s5.ch 2 false = 1 ∧ s5.red 1 = true) := Lib.hid ⟨X6.out.tx.al.at_.2.2.2.2.1.1, X6.out.tx.al.at_.2.2.2.2.1.2.2.2.1⟩; clear hb)
    | (go_at_call 29; (with_reducible refine (X6.out.child (k := 2) (x := 1) (a := 64) (b := 32) n40_2 false C6.out.1 (by decide) (by decide)).mono ?_); rintro e w7 ⟨rfl, hb⟩; have X7 := Lib.hid (X6.out.below hb); clear hb)
    | (go_at_call 25; (with_reducible refine (X7.out.red (k := 1) (r := true) (a := 32) n40_1 C6.out.2 (by decide)).mono ?_); rintro e w8 ⟨rfl, hb⟩; have X8 := Lib.hid (X7.out.below hb); clear hb; have P9 : Hid (Calls Tryd.prog 13 #[.pointer (some ⟨p, 0, none⟩), .int .i64 8, .int .i64 64] w8 fun e w' => e = .returned (.int .i64 0) ∧ Lw w w' p g (kf X3 3) G4 ∧ Fg g w8 w') := (Lib.hid (Lw.del_at (u := []) (cc := false) (l := .n true .e 1 .e) (r := .n true .e 3 .e) (k := 2) ⟨s5, I5, X8.out⟩ (a := 64) (by decide))))
    | (go_at_call 13; (with_reducible refine P9.out.mono ?_); rintro e w9 ⟨rfl, hL, hf⟩; obtain ⟨s9, I9, hX⟩ := hL; have X9 := Lib.hid hX; clear hX hf)
    | (go_at_call 23; (with_reducible refine (X9.out.root (a := 96) (by decide)).mono ?_); rintro e wA ⟨rfl, hb⟩; have XA := Lib.hid (X9.out.below hb); have CA : Hid (s9.ch 3 false = 1 ∧ s9.red 1 = true) := Lib.hid ⟨XA.out.tx.al.at_.2.2.2.2.1.1, XA.out.tx.al.at_.2.2.2.2.1.2.2.2.1⟩; clear hb)
    | (go_at_call 29; (with_reducible refine (XA.out.child (k := 3) (x := 1) (a := 96) (b := 32) n40_3 false CA.out.1 (by decide) (by decide)).mono ?_); rintro e wB ⟨rfl, hb⟩; have XB := Lib.hid (XA.out.below hb); clear hb)
    | (go_at_call 25; (with_reducible refine (XB.out.red (k := 1) (r := true) (a := 32) n40_1 CA.out.2 (by decide)).mono ?_); rintro e wC ⟨rfl, hb⟩; have XC := Lib.hid (XB.out.below hb); clear hb))
  go_ret
  exact ⟨rfl, XC.out.bl⟩
section
variable {w0 : World} {p g : Nat} {f0 : Nat → Int} {s : Tr} {I : Nat → Bool} {T0 : T}
set_option maxRecDepth 100000 in
set_option maxHeartbeats 4000000 in
theorem deepest_ok : ∀ (T1 : T) {w : World} {x q most : Nat}, At s T1 x q → (∀ j, j ∈ T1.ns → N40 j) → deep T1 ≤ most → most ≤ 100 → Lx w0 w p g f0 s I T0 →
    Calls Tryd.prog 31 #[.pointer (some ⟨p, 0, none⟩), .int .i64 (32 * (x : Nat)), .int .i64 (most : Nat)] w fun e w' => e = .returned (.int .i64 (deep T1 : Nat)) ∧ Below w.heap.size w w'
  | .e, w, x, q, most, hA, _, _, _, L => by
    have hx : x = 0 := hA
    subst hx
    show Calls Tryd.prog 31 #[.pointer (some ⟨p, 0, none⟩), .int .i64 0, .int .i64 (most : Nat)] w fun e w' => e = .returned (.int .i64 0) ∧ _
    clear L hA
    go_enter Tryd.func31, Tryd.ntmps31
    go_wp2
    go_ret
    exact ⟨rfl, Below.refl _ _⟩
  | .n cc l k r, w, x, q, most, hA, hN, hd, hm, L => by
    obtain ⟨rfl, hx0, _, _, hl, hr⟩ := hA
    have hdn := @deep_n cc l r x
    have xN := hN x (by simp [T.ns])
    have IHl := Lib.hid (fun (w : World) (L : Lx w0 w p g f0 s I T0) => deepest_ok l (most := most - 1) hl (fun j hj => hN j (by simp [T.ns, hj])) (by omega) (by omega) L)
    have IHr := Lib.hid (fun (w : World) (L : Lx w0 w p g f0 s I T0) => deepest_ok r (most := most - 1) hr (fun j hj => hN j (by simp [T.ns, hj])) (by omega) (by omega) L)
    have em : ((most - 1 : Nat) : Int) = (most : Int) - 1 := by omega
    rw [em] at IHl IHr
    have C0 : ∀ w, Lx w0 w p g f0 s I T0 → Calls Tryd.prog 29 #[.pointer (some ⟨p, 0, none⟩), .int .i64 (32 * (x : Nat)), .bool false] w fun e w' => e = .returned (.tuple #[.int .i64 (32 * (s.ch x false : Nat)), .int .i64 0]) ∧ Below w.heap.size w w' := fun w L => L.child xN false rfl (by omega) (by omega)
    have C1 : ∀ w, Lx w0 w p g f0 s I T0 → Calls Tryd.prog 29 #[.pointer (some ⟨p, 0, none⟩), .int .i64 (32 * (x : Nat)), .bool true] w fun e w' => e = .returned (.tuple #[.int .i64 (32 * (s.ch x true : Nat)), .int .i64 0]) ∧ Below w.heap.size w w' := fun w L => L.child xN true rfl (by omega) (by omega)
    replace C0 := Lib.hid C0
    replace C1 := Lib.hid C1
    have hk0 : ¬ (x : Nat) = 0 := hx0
    have hm0 : ¬ (most : Nat) = 0 := by omega
    have hmw : IntKind.i64.wrap ((most : Int) - 1) = (most : Int) - 1 := IntWalk.i64_in _ (by omega)
    have hdl : deep l ≤ 100 := by omega
    have hdr : deep r ≤ 100 := by omega
    have hwl : IntKind.i64.wrap ((deep l : Int) + 1) = (deep l : Int) + 1 := IntWalk.i64_in _ (by omega)
    have hwr : IntKind.i64.wrap ((deep r : Int) + 1) = (deep r : Int) + 1 := IntWalk.i64_in _ (by omega)
    have HL := Lib.hid L
    have FR := Lib.hid (Below.refl w.heap.size w)
    have hres : Hid (deep (.n cc l x r) = (if deep l < deep r then deep r else deep l) + 1) := Lib.hid rfl
    have xq1 : (((x : Nat) : Int) == 0) = false := beq_eq_false_iff_ne.2 (by omega)
    have xq2 : ((32 * ((x : Nat) : Int)) == 0) = false := beq_eq_false_iff_ne.2 (by omega)
    have mq : (((most : Nat) : Int) == 0) = false := beq_eq_false_iff_ne.2 (by omega)
    clear hl hr hN hd L em hdn xN hx0 hk0 hm0
    by_cases hlt : deep l < deep r
    · have hltI : ((deep l : Nat) : Int) < (deep r : Nat) := by omega
      have HD : Hid (deep (.n cc l x r) = deep r + 1) := Lib.hid (by rw [hres.out, if_pos hlt])
      clear hlt
      go_enter Tryd.func31, Tryd.ntmps31
      go_wp2_with (first
        | (go_at_call 29; (with_reducible refine (C0.out _ HL.out).mono ?_); rintro e wc ⟨rfl, hb⟩; have HL := Lib.hid (HL.out.below hb); have FR := Lib.hid (FR.out.trans (hb.mono FR.out.size)); clear hb)
        | (go_at_call 29; (with_reducible refine (C1.out _ HL.out).mono ?_); rintro e wc ⟨rfl, hb⟩; have HL := Lib.hid (HL.out.below hb); have FR := Lib.hid (FR.out.trans (hb.mono FR.out.size)); clear hb)
        | (go_at_call 31; (with_reducible refine (IHl.out _ HL.out).mono ?_); rintro e wc ⟨rfl, hb⟩; have HL := Lib.hid (HL.out.below hb); have FR := Lib.hid (FR.out.trans (hb.mono FR.out.size)); clear hb)
        | (go_at_call 31; (with_reducible refine (IHr.out _ HL.out).mono ?_); rintro e wc ⟨rfl, hb⟩; have HL := Lib.hid (HL.out.below hb); have FR := Lib.hid (FR.out.trans (hb.mono FR.out.size)); clear hb))
      go_ret
      rw [HD.out]
      exact ⟨rfl, FR.out⟩
    · have hltI : ¬ ((deep l : Nat) : Int) < (deep r : Nat) := by omega
      have HD : Hid (deep (.n cc l x r) = deep l + 1) := Lib.hid (by rw [hres.out, if_neg hlt])
      clear hlt
      go_enter Tryd.func31, Tryd.ntmps31
      go_wp2_with (first
        | (go_at_call 29; (with_reducible refine (C0.out _ HL.out).mono ?_); rintro e wc ⟨rfl, hb⟩; have HL := Lib.hid (HL.out.below hb); have FR := Lib.hid (FR.out.trans (hb.mono FR.out.size)); clear hb)
        | (go_at_call 29; (with_reducible refine (C1.out _ HL.out).mono ?_); rintro e wc ⟨rfl, hb⟩; have HL := Lib.hid (HL.out.below hb); have FR := Lib.hid (FR.out.trans (hb.mono FR.out.size)); clear hb)
        | (go_at_call 31; (with_reducible refine (IHl.out _ HL.out).mono ?_); rintro e wc ⟨rfl, hb⟩; have HL := Lib.hid (HL.out.below hb); have FR := Lib.hid (FR.out.trans (hb.mono FR.out.size)); clear hb)
        | (go_at_call 31; (with_reducible refine (IHr.out _ HL.out).mono ?_); rintro e wc ⟨rfl, hb⟩; have HL := Lib.hid (HL.out.below hb); have FR := Lib.hid (FR.out.trans (hb.mono FR.out.size)); clear hb))
      go_ret
      rw [HD.out]
      exact ⟨rfl, FR.out⟩
end
end Go.Proofs.YtiacclmapicmdaaDoor
