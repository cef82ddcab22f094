/- The laws' small functions; the document's example. Condition: the table of widths lies in its block. -/
import Derived.Test.YtiacclmapicmdaaDoorTrKeys
import Derived.Test.YtiacclmapicmdaaDoorTrAll
namespace Go.Proofs.YtiacclmapicmdaaDoor
open Go.RowKit

/-- Keys that are handed in. -/
def Kz (w : World) (A : Option Addr) (xs : List Nat) : Prop := ∀ i x, xs[i]? = some x → ∃ b o, A = some ⟨b, o, none⟩ ∧ b < w.heap.size ∧ w.cell? ⟨b, o + i, none⟩ = some (.int .u64 (x : Nat)) ∧ x < 18446744073709551616
theorem Kz.below {w w' : World} {A : Option Addr} {xs : List Nat} (k : Kz w A xs) (h : Below w.heap.size w w') : Kz w' A xs := fun i x hx => by
  obtain ⟨b, o, h1, h2, h3, h4⟩ := k i x hx
  exact ⟨b, o, h1, Nat.lt_of_lt_of_le h2 h.size, (h.cell (p := ⟨b, o + i, none⟩) h2).trans h3, h4⟩
theorem Kz.lt {w : World} {A : Option Addr} {xs : List Nat} (k : Kz w A xs) : ∀ x, x ∈ xs → x < 18446744073709551616 := fun x hx => by
  obtain ⟨i, hi⟩ := List.getElem?_of_mem hx
  obtain ⟨_, _, _, _, _, h⟩ := k i x hi
  exact h
/-- The law's arena holds the tree T0; nothing that was there before has turned. -/
structure Lx (w0 w : World) (p g : Nat) (f0 : Nat → Int) (s : Tr) (I : Nat → Bool) (T0 : T) : Prop where
  tx : Tx (mkC p g f0) w s I T0
  bl : Below w0.heap.size w0 w
  gp : w0.heap.size ≤ p ∧ w0.heap.size ≤ g
def Lw (w0 w : World) (p g : Nat) (f0 : Nat → Int) (T0 : T) : Prop := ∃ s I, Lx w0 w p g f0 s I T0
section
variable {w0 w w' : World} {p g : Nat} {f0 : Nat → Int} {s : Tr} {I : Nat → Bool} {T0 : T} {key : Nat → Nat}
theorem Lx.below (L : Lx w0 w p g f0 s I T0) (h : Below w.heap.size w w') : Lx w0 w' p g f0 s I T0 := ⟨L.tx.below h, L.bl.trans (h.mono L.bl.size), L.gp⟩
theorem Lw.below (L : Lw w0 w p g f0 T0) (h : Below w.heap.size w w') : Lw w0 w' p g f0 T0 := by
  obtain ⟨s, I, L⟩ := L
  exact ⟨s, I, L.below h⟩
theorem Lw.bl (L : Lw w0 w p g f0 T0) : Below w0.heap.size w0 w := by
  obtain ⟨s, I, L⟩ := L
  exact L.bl
theorem Lw.len (L : Lw w0 w p g f0 T0) : T0.ns.length ≤ 40 ∧ T0.ns.Nodup ∧ (∀ j, j ∈ T0.ns → N40 j) ∧ Rb T0 := by
  obtain ⟨s, I, L⟩ := L
  exact ⟨n40_len L.tx.al.nt L.tx.nN, L.tx.al.nt, L.tx.nN, L.tx.rb⟩
theorem Lx.step {T1 : T} (L : Lx w0 w p g f0 s I T0) (h : Tw (mkC p g f0) w' T1) (hf : Fg g w w') : Lw w0 w' p g f0 T1 := by
  obtain ⟨s', I', h⟩ := h
  exact ⟨s', I', h, L.bl.trans (hf.below L.bl.size L.gp.2), L.gp⟩
theorem Lw.add_ok (L : Lw w0 w p g f0 T0) (hk : Ky (mkC p g f0) (-8) key) {k : Nat} {a : Int} (hkN : N40 k) (hin : k ∉ T0.ns) (ha : a = ((32 * k : Nat) : Int)) :
    Calls Tryd.prog 16 #[.pointer (some ⟨p, 0, none⟩), .int .i64 8, .int .i64 a, .int .i64 (-8)] w fun e w' => e = .returned (.int .i64 0) ∧ Lw w0 w' p g f0 (addT key k T0) ∧ Fg g w w' := by
  obtain ⟨s, I, L⟩ := L
  subst ha
  exact (L.tx.add_ok (cz40 p g f0) hk hkN hin).mono fun e w' ⟨h1, h2, h3⟩ => ⟨h1, L.step h2 h3, h3⟩
theorem Lw.add_in (L : Lw w0 w p g f0 T0) (hk : Ky (mkC p g f0) (-8) key) {k : Nat} {a : Int} (hkN : N40 k) (hin : k ∈ T0.ns) (ha : a = ((32 * k : Nat) : Int)) :
    Calls Tryd.prog 16 #[.pointer (some ⟨p, 0, none⟩), .int .i64 8, .int .i64 a, .int .i64 (-8)] w fun e w' => e = .returned (.int .i64 8) ∧ Below w.heap.size w w' := by
  obtain ⟨s, I, L⟩ := L
  subst ha
  exact L.tx.add_in hk hkN hin
theorem Lw.del_no (L : Lw w0 w p g f0 T0) {k : Nat} {a : Int} (hkN : N40 k) (hin : k ∉ T0.ns) (ha : a = ((32 * k : Nat) : Int)) :
    Calls Tryd.prog 13 #[.pointer (some ⟨p, 0, none⟩), .int .i64 8, .int .i64 a] w fun e w' => e = .returned (.int .i64 8) ∧ Below w.heap.size w w' := by
  obtain ⟨s, I, L⟩ := L
  subst ha
  exact L.tx.del_no hkN hin
theorem Lw.del_at {u : List Fr} {cc : Bool} {l r : T} {k : Nat} (L : Lw w0 w p g f0 (plug u (.n cc l k r))) {a : Int} (ha : a = ((32 * k : Nat) : Int)) :
    Calls Tryd.prog 13 #[.pointer (some ⟨p, 0, none⟩), .int .i64 8, .int .i64 a] w fun e w' => e = .returned (.int .i64 0) ∧ Lw w0 w' p g f0 (delAt u (.n cc l k r)) ∧ Fg g w w' := by
  obtain ⟨s, I, L⟩ := L
  subst ha
  exact (L.tx.del_ok (cz40 p g f0)).mono fun e w' ⟨h1, h2, h3⟩ => ⟨h1, L.step h2 h3, h3⟩
theorem Lw.del_ok (L : Lw w0 w p g f0 T0) {k : Nat} {a : Int} (hin : k ∈ T0.ns) (ha : a = ((32 * k : Nat) : Int)) :
    Calls Tryd.prog 13 #[.pointer (some ⟨p, 0, none⟩), .int .i64 8, .int .i64 a] w fun e w' => e = .returned (.int .i64 0) ∧ (∃ T1, Lw w0 w' p g f0 T1 ∧ T1.ns = T0.ns.erase k) ∧ Fg g w w' := by
  obtain ⟨u, cc, l, r, h⟩ := find_way (u := []) hin
  have h : plug u (.n cc l k r) = T0 := h
  subst h
  exact (L.del_at ha).mono fun e w' ⟨h1, h2, h3⟩ => ⟨h1, ⟨_, h2, delAt_erase L.len.2.1⟩, h3⟩
theorem Lx.root (L : Lx w0 w p g f0 s I T0) {a : Int} (ha : a = ((32 * T0.root : Nat) : Int)) :
    Calls Tryd.prog 23 #[.pointer (some ⟨p, 0, none⟩), .int .i64 8] w fun e w' => e = .returned (.tuple #[.int .i64 a, .int .i64 0]) ∧ Below w.heap.size w w' := by
  subst ha
  have := L.tx.td.rootP
  rw [L.tx.al.at_.root] at this
  exact this
theorem Lx.child (L : Lx w0 w p g f0 s I T0) {k x : Nat} {a b : Int} (hk : N40 k) (d : Bool) (hx : s.ch k d = x) (ha : a = ((32 * k : Nat) : Int)) (hb : b = ((32 * x : Nat) : Int)) :
    Calls Tryd.prog 29 #[.pointer (some ⟨p, 0, none⟩), .int .i64 a, .bool d] w fun e w' => e = .returned (.tuple #[.int .i64 b, .int .i64 0]) ∧ Below w.heap.size w w' := by
  subst ha; subst hb; subst hx
  exact L.tx.td.childP hk d
theorem Lx.red (L : Lx w0 w p g f0 s I T0) {k : Nat} {r : Bool} {a : Int} (hk : N40 k) (hr : s.red k = r) (ha : a = ((32 * k : Nat) : Int)) :
    Calls Tryd.prog 25 #[.pointer (some ⟨p, 0, none⟩), .int .i64 a] w fun e w' => e = .returned (.tuple #[.bool r, .int .i64 0]) ∧ Below w.heap.size w w' := by
  subst ha; subst hr
  exact L.tx.td.redP hk
theorem Lx.owner (L : Lx w0 w p g f0 s I T0) {k : Nat} {a b : Int} (hk : N40 k) (ha : a = ((32 * k : Nat) : Int)) (hb : b = if I k then 8 else 0) :
    Calls Tryd.prog 30 #[.pointer (some ⟨p, 0, none⟩), .int .i64 a] w fun e w' => e = .returned (.tuple #[.int .i64 b, .int .i64 0]) ∧ Below w.heap.size w w' := by
  subst ha; subst hb
  have := L.tx.td.ownerP hk
  have e : (if I k then (8 : Int) else 0) = ((if I k then (8 : Nat) else 0 : Nat) : Int) := by cases I k <;> rfl
  rw [e]
  exact this
theorem Lx.first (L : Lx w0 w p g f0 s I T0) {a : Int} (ha : a = ((32 * fst T0 : Nat) : Int)) :
    Calls Tryd.prog 19 #[.pointer (some ⟨p, 0, none⟩), .int .i64 8] w fun e w' => e = .returned (.tuple #[.int .i64 a, .int .i64 0]) ∧ Below w.heap.size w w' := by
  subst ha
  have h := n40_len L.tx.al.nt L.tx.nN
  exact L.tx.td.firstP L.tx.al.at_ (show T0.ns.length < 2048 by omega)
theorem Lx.all (L : Lx w0 w p g f0 s I T0) :
    Calls Tryd.prog 21 #[.pointer (some ⟨p, 0, none⟩), .int .i64 8] w fun e w' => ∃ A cap, e = .returned (.tuple #[.slice A T0.ns.length cap, .int .i64 0]) ∧ Rx w' w.heap.size A cap (T0.ns.map (32 * ·)) ∧ Below w.heap.size w w' := by
  have h := n40_len L.tx.al.nt L.tx.nN
  exact L.tx.td.allP L.tx.al.at_ L.tx.nN (by
    have := deep_rb L.tx.rb (b := 6) (by have : 2 ^ (6 + 1) = 128 := rfl; omega)
    omega) (by omega)
end
set_option maxRecDepth 100000 in
theorem leaf_int (n r : Int) (hn : 0 ≤ n ∧ n ≤ 70000) (hr : r = 32 * n) (w : World) : Calls Tryd.prog 14 #[.int .i64 n] w fun e w' => e = .returned (.int .i64 r) ∧ w = w' := by
  subst hr
  by_cases h : n = 0
  · subst h
    go_enter Tryd.func14, Tryd.ntmps14
    go_wp2
    go_ret
    exact ⟨rfl, rfl⟩
  · have hw : IntKind.i64.wrap (32 * n) = 32 * n := IntWalk.i64_in _ (by omega)
    go_enter Tryd.func14, Tryd.ntmps14
    go_wp2
    go_ret
    exact ⟨rfl, rfl⟩
set_option maxRecDepth 100000 in
theorem few_any (A : Option Addr) (len cap : Nat) (hc : len ≤ cap) (w : World) : Calls Tryd.prog 10 #[.slice A len cap] w fun e w' => (∃ cap', e = .returned (.slice A (min len 40) cap') ∧ min len 40 ≤ cap') ∧ w = w' := by
  by_cases h : 40 < len
  · have h1 : (40 : Int) < (len : Nat) := by omega
    have h2 : (40 : Int) ≤ (cap : Nat) := by omega
    have h3 : ¬ cap = 0 := by omega
    have e : min len 40 = 40 := by omega
    rw [e]
    have HC : Hid (40 ≤ cap) := Lib.hid (by omega)
    clear e h hc
    go_enter Tryd.func10, Tryd.ntmps10
    go_wp2
    go_ret
    exact ⟨⟨_, rfl, HC.out⟩, rfl⟩
  · have h1 : ¬ (40 : Int) < (len : Nat) := by omega
    have e : min len 40 = len := by omega
    rw [e]
    have HC := Lib.hid hc
    clear e h hc
    go_enter Tryd.func10, Tryd.ntmps10
    go_wp2
    go_ret
    exact ⟨⟨_, rfl, HC.out⟩, rfl⟩
set_option maxRecDepth 100000 in
set_option maxHeartbeats 4000000 in
theorem fresh_any {w0 w : World} (hT : Tab w) (hw : 0 < w.heap.size) (hb : Below w0.heap.size w0 w) {A : Option Addr} {cap m : Nat} {xs : List Nat} (hk : Kz w A xs) (hm : xs.length = m) (hmc : m ≤ cap) (h40 : m ≤ 40) :
    Calls Tryd.prog 11 #[.slice A m cap] w fun e w' => ∃ p g, e = .returned (.pointer (some ⟨p, 0, none⟩)) ∧ Lx w0 w' p g (kf xs m) s0 (fun _ => false) .e ∧ Below w.heap.size w w' := by
  have N1 := Lib.hid (new_ok (w := w) 2048 (by decide))
  have HT := Lib.hid hT
  have HB := Lib.hid hb
  have HK := Lib.hid hk
  have HM := Lib.hid hm
  clear hT hb hk hm
  go_enter Tryd.func11, Tryd.ntmps11
  go_wp2_with (go_at_call 32; refine N1.out.mono ?_; rintro e w1 ⟨rfl, ha, hz, hl⟩; replace ha := Lib.hid ha; replace hz := Lib.hid hz; replace hl := Lib.hid hl)
  have HW : Hid (0 < w.heap.size) := Lib.hid hw
  have A1 : Hid (Aw w1 (w.heap.size + 1) w.heap.size 2048 (kf xs 0)) := Lib.hid ⟨HT.out.below hl.out hw, hw, ha.out⟩
  have SZ : Hid (w.heap.size ≤ w.heap.size) := Lib.hid (Nat.le_refl _)
  obtain ⟨p, hp⟩ : ∃ p, p = w.heap.size + 1 := ⟨_, rfl⟩
  obtain ⟨g, hg⟩ : ∃ g, g = w.heap.size := ⟨_, rfl⟩
  have A1 : Hid (Aw w1 p g 2048 (kf xs 0)) := Lib.hid (by rw [hp, hg]; exact A1.out)
  rw [← hp]
  have HP := Lib.hid hp
  have HG := Lib.hid hg
  clear hp hg hw ha hz
  go_loopg [5] m (fun gk v5 wr => ∃ i : Nat, i + gk = m ∧ v5 = .int .i64 (i : Nat) ∧ Hid (Aw wr p g 2048 (kf xs i)) ∧ Hid (Below w.heap.size w wr))
  case atStart => exact ⟨0, by omega, rfl, A1, hl⟩
  case round =>
    obtain ⟨i, hi, rfl, hA, hB⟩ := hrel
    cases gk with
    | zero =>
      obtain rfl : i = m := by omega
      go_wp2
      go_ret
      refine ⟨p, g, rfl, ⟨⟨⟨_, hA.out, tm0 xs i, KeepT.refl _, zn0⟩, al0, fun j => by simp [T.ns], (fun j hj => by cases hj), ⟨⟨0, rfl⟩, rfl⟩⟩, HB.out.trans (hB.out.mono HB.out.size), ?_⟩, hB.out⟩
      have h1 := HB.out.size
      rw [HP.out, HG.out]
      exact ⟨by omega, by omega⟩
    | succ gk =>
      have him : i < m := by omega
      have hmm : xs.length = m := HM.out
      obtain ⟨x, hx⟩ : ∃ x, xs[i]? = some x := ⟨_, List.getElem?_eq_getElem (by omega)⟩
      obtain ⟨b, o, rfl, hblt, hcell0, hxlt⟩ := HK.out i x hx
      have hcell : wr.cell? ⟨b, o + i, none⟩ = some (.int .u64 (x : Nat)) := (hB.out.cell (p := ⟨b, o + i, none⟩) hblt).trans hcell0
      have hgd : xs.getD i 0 = x := by rw [List.getD_eq_getElem?_getD, hx]; rfl
      have ix1 : (0 : Int) ≤ (i : Nat) := by omega
      have ix2 : ((i : Nat) : Int) < (m : Nat) := by omega
      have hw1 : IntKind.i64.wrap ((i : Int) + 1) = (i : Int) + 1 := IntWalk.i64_in _ (by omega)
      have hw2 : IntKind.i64.wrap (32 * ((i : Int) + 1) - 8) = 32 * ((i : Int) + 1) - 8 := IntWalk.i64_in _ (by omega)
      have LF : Hid (∀ w, Calls Tryd.prog 14 #[.int .i64 ((i : Int) + 1)] w fun e w' => e = .returned (.int .i64 (32 * ((i : Int) + 1))) ∧ w = w') := Lib.hid fun w => leaf_int _ _ (by omega) rfl w
      have ST : Hid (∀ w, Aw w p g 2048 (kf xs i) → Calls Tryd.prog 27 #[.pointer (some ⟨p, 0, none⟩), .int .i64 (32 * ((i : Int) + 1) - 8), .int .i64 8, .int .u64 (x : Nat)] w fun e w' => e = .returned (.int .i64 0) ∧ Aw w' p g 2048 (kf xs (i + 1)) ∧ Only g w w') := Lib.hid fun w a => by
        have h := store_ok p g 2048 (kf xs i) (32 * (i + 1) - 8) 8 (x : Nat) a.tab a.ar (by omega) (by decide) (by omega)
        have e1 : ((32 * (i + 1) - 8 : Nat) : Int) = 32 * ((i : Int) + 1) - 8 := by omega
        rw [e1] at h
        refine h.mono fun e w' ⟨h1, h2, h3⟩ => ⟨h1, ?_, h3⟩
        have h4 := a.fg (Fg.of_only h3) h2
        have e2 : kf xs (i + 1) = st (kf xs i) (32 * (i + 1) - 8) (x : Nat) 8 := by rw [kf, hgd]
        rw [e2]
        exact h4
      have UA : Hid (Aw wr.drew p g 2048 (kf xs i)) := Lib.hid hA.out.drew
      have KC := Lib.hid hcell
      have NBG : Hid (b ≠ g) := Lib.hid (by have := HG.out; omega)
      have FB : Hid (Below w.heap.size w wr.drew) := Lib.hid (hB.out.drew)
      have HI := Lib.hid hi
      have HG2 : Hid (w.heap.size ≤ g) := Lib.hid (by rw [HG.out]; exact Nat.le_refl _)
      clear hcell0 hx hblt hgd hxlt him hmm hi
      go_wp2_with fail
      go_region_held3 (fun w' => w'.cell? ⟨b, o + i, none⟩ = some (.int .u64 (x : Nat))) (first | go_keep | (with_reducible exact KC.out) | (with_reducible exact KD.out)) (first
        | (go_at_call 14; (with_reducible refine (LF.out _).mono ?_); rintro e wa ⟨rfl, rfl⟩)
        | (go_at_call 27; (with_reducible refine (ST.out _ UA.out).mono ?_); rintro e wa ⟨rfl, hA2, ho⟩; have UA2 := Lib.hid hA2; have FB2 : Hid (Below w.heap.size w wa) := Lib.hid (FB.out.trans (ho.below HG2.out)); have KD : Hid (wa.cell? ⟨b, o + i, none⟩ = some (.int .u64 (x : Nat))) := Lib.hid ((World.cell?_of_block (ho.block b NBG.out)).trans KC.out); clear hA2 ho))
      all_goals
        go_wp2_with fail
        have hi := HI.out
        go_roundg gk
        case measure => omega
        case rel => exact ⟨i + 1, by omega, by go_num, UA2, FB2⟩
end Go.Proofs.YtiacclmapicmdaaDoor
