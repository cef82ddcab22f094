/- The contract of tree's All over a tree's links. Conditions: the table of widths lies in its block; the arena's blocks are known; its bytes are a tree's links. -/
import Derived.Test.YtiacclmapicmdaaDoorTrReads
import Derived.Test.YtiacclmapicmdaaDoorInts
import Derived.Deep.AppendLies
import Derived.Deep.RegionWith
namespace Go.Proofs.YtiacclmapicmdaaDoor
open Go.RowKit

/-- Nothing below B has turned but block a. -/
structure Fb (B a : Nat) (w w' : World) : Prop where
  os : w'.os = w.os
  tape : w'.tape = w.tape
  output : w'.output = w.output
  size : w.heap.size ≤ w'.heap.size
  block : ∀ k, k < B → k ≠ a → w'.heap[k]? = w.heap[k]?
theorem Fb.refl (B a : Nat) (w : World) : Fb B a w w := ⟨rfl, rfl, rfl, Nat.le_refl _, fun _ _ _ => rfl⟩
theorem Fb.trans {B a : Nat} {w w' w'' : World} (h : Fb B a w w') (k : Fb B a w' w'') : Fb B a w w'' :=
  ⟨k.os.trans h.os, k.tape.trans h.tape, k.output.trans h.output, Nat.le_trans h.size k.size, fun i h1 h2 => (k.block i h1 h2).trans (h.block i h1 h2)⟩
theorem Fb.of_below {B a b : Nat} {w w' : World} (h : Below b w w') (hB : B ≤ b) : Fb B a w w' := ⟨h.os, h.tape, h.output, h.size, fun k hk _ => h.block k (by omega)⟩
theorem Fb.set (B a : Nat) (w : World) (u : Value) : Fb B a w (w.setCell ⟨a, 0, none⟩ u) := ⟨rfl, rfl, rfl, by simp [World.setCell], fun k _ hk => Below.heap_setCell w ⟨a, 0, none⟩ u k hk⟩
/-- The blocks of a listing: its own variable, its box, the closure's, apart and below B. -/
structure Sq (c : Cx) (B ba bl bt : Nat) : Prop where
  p : c.p < B ∧ c.p ≠ ba
  g : c.g < B ∧ c.g ≠ ba
  wd : 0 < B ∧ 0 ≠ ba
  bl : bl < B ∧ bl ≠ ba
  bt : bt < B ∧ bt ≠ ba
  ba : ba < B
abbrev fvT (ba bl bt : Nat) : Value := .func (.func 52) #[] #[.pointer (some ⟨bt, 0, none⟩), .pointer (some ⟨bl, 0, none⟩), .pointer (some ⟨ba, 0, none⟩)]
structure Tq (c : Cx) (s : Tr) (I : Nat → Bool) (B ba bl bt : Nat) (w0 w : World) (xs : List Nat) (A : Option Addr) (cap : Nat) : Prop where
  td : Td c w s I
  kl : Blk w bl 69 #[.pointer (some ⟨c.p, 0, none⟩)]
  kt : Blk w bt 70 #[fvT ba bl bt]
  ka : Blk w ba 44 #[.slice A xs.length cap]
  rx : Rx w B A cap xs
  fb : Fb B ba w0 w
  hB : B ≤ w.heap.size
section
variable {c : Cx} {s : Tr} {I : Nat → Bool} {B ba bl bt : Nat} {w0 w w' : World} {xs : List Nat} {A : Option Addr} {cap : Nat}
theorem Td.fb (t : Td c w s I) (q : Sq c B ba bl bt) (h : Fb B ba w w') : Td c w' s I := by
  obtain ⟨f, t⟩ := t
  obtain ⟨t0, fr, e⟩ := t.aw.tab
  exact ⟨f, ⟨⟨t0, fr, (h.block _ q.wd.1 q.wd.2).trans e⟩, t.aw.wg, ⟨(h.block _ q.p.1 q.p.2).trans t.aw.ar.head, (h.block _ q.g.1 q.g.2).trans t.aw.ar.body, t.aw.ar.small, t.aw.ar.byte⟩⟩, t.tm, t.kp, t.zn⟩
theorem Tq.below (t : Tq c s I B ba bl bt w0 w xs A cap) (h : Below w.heap.size w w') : Tq c s I B ba bl bt w0 w' xs A cap :=
  ⟨t.td.below h, t.kl.below h t.kl.lt, t.kt.below h t.kt.lt, t.ka.below h t.ka.lt, t.rx.below h, t.fb.trans (Fb.of_below h t.hB), Nat.le_trans t.hB h.size⟩
theorem Tq.cl (t : Tq c s I B ba bl bt w0 w xs A cap) : w.cell? ⟨bl, 0, none⟩ = some (.pointer (some ⟨c.p, 0, none⟩)) := t.kl.cell 0
theorem Tq.ct (t : Tq c s I B ba bl bt w0 w xs A cap) : w.cell? ⟨bt, 0, none⟩ = some (fvT ba bl bt) := t.kt.cell 0
theorem Tq.ca (t : Tq c s I B ba bl bt w0 w xs A cap) : w.cell? ⟨ba, 0, none⟩ = some (.slice A xs.length cap) := t.ka.cell 0
end
theorem Tq.app {c : Cx} {s : Tr} {I : Nat → Bool} {B ba bl bt : Nat} {w0 w w5 : World} {xs : List Nat} {A : Option Addr} {cap y : Nat} {v' : Value} (q : Sq c B ba bl bt) (t : Tq c s I B ba bl bt w0 w xs A cap)
    (hown : w5.ownsRow B 3 1 v' (xs.length + 1) (intx (xs ++ [y]))) (hgrow : (w.alloc (.cells #[.int .i64 (y : Nat)] 3)).grownBy w5 (Value.slice A xs.length cap).ownBlock) :
    ∃ A5 cap5, v' = .slice A5 (xs.length + 1) cap5 ∧ Blk w5 ba 44 #[.slice A xs.length cap] ∧ Tq c s I B ba bl bt w0 (w5.setCell ⟨ba, 0, none⟩ (.slice A5 (xs.length + 1) cap5)) (xs ++ [y]) A5 cap5 := by
  obtain ⟨A5, cap5, rfl, hl5, hR5⟩ := Rx.of hown
  have hxl : (xs ++ [y]).length = xs.length + 1 := by simp
  rw [hxl]
  have hg5 : Below B w w5 := ((below_one w _).mono t.hB).trans (below_grown hgrow (by have := t.hB; simp; omega) (fun r hr => t.rx.own r hr))
  have hf : Fb B ba w w5 := Fb.of_below hg5 (Nat.le_refl _)
  have K5 : Blk w5 ba 44 #[.slice A xs.length cap] := t.ka.below hg5 q.ba
  have hf6 := hf.trans (Fb.set B ba w5 (.slice A5 (xs.length + 1) cap5))
  refine ⟨A5, cap5, rfl, K5, t.td.fb q hf6, (hf6.block _ q.bl.1 q.bl.2).trans t.kl, (hf6.block _ q.bt.1 q.bt.2).trans t.kt, ?_, ?_, t.fb.trans hf6, Nat.le_trans t.hB hf6.size⟩
  · rw [hxl]
    exact K5.put 0 _
  · exact hR5.keep fun k h1 h2 => Below.heap_setCell w5 ⟨ba, 0, none⟩ _ k (show k ≠ ba by have := q.ba; omega)
theorem new_two (w : World) (o : Obj) (cs : Array Value) (t : TypeId) : Blk ((w.alloc o).alloc (.cells cs t)) (w.heap.size + 1) t cs := by
  have := Blk.new (w.alloc o) t cs
  simp only [World.size_alloc] at this
  exact this
theorem deep_n {cc : Bool} {l r : T} {k : Nat} : deep l + 1 ≤ deep (.n cc l k r) ∧ deep r + 1 ≤ deep (.n cc l k r) := by
  show deep l + 1 ≤ (if deep l < deep r then deep r else deep l) + 1 ∧ deep r + 1 ≤ (if deep l < deep r then deep r else deep l) + 1
  split <;> omega
theorem ns_len {cc : Bool} {l r : T} {k : Nat} : (T.n cc l k r).ns.length = l.ns.length + r.ns.length + 1 := by
  simp only [T.ns, List.length_append, List.length_cons]; omega
set_option maxRecDepth 100000 in
set_option maxHeartbeats 4000000 in
theorem tell_ok {c : Cx} {s : Tr} {I : Nat → Bool} {B ba bl bt : Nat} {w0 : World} (q : Hid (Sq c B ba bl bt)) : ∀ (T1 : T) {w : World} {xs : List Nat} {A : Option Addr} {cap x p lev : Nat}, At s T1 x p → (∀ j, j ∈ T1.ns → c.N j) → lev + deep T1 ≤ 61 → xs.length + T1.ns.length ≤ 10000 → Tq c s I B ba bl bt w0 w xs A cap →
    Calls Tryd.prog 52 #[.int .i64 (c.ad x : Nat), .int .i64 (lev : Nat), .pointer (some ⟨bt, 0, none⟩), .pointer (some ⟨bl, 0, none⟩), .pointer (some ⟨ba, 0, none⟩)] w fun e w' => ∃ A' cap', e = .returned (.bool true) ∧ Tq c s I B ba bl bt w0 w' (xs ++ T1.ns.map c.ad) A' cap'
  | .e, w, xs, A, cap, x, p, lev, hA, _, _, _, t => by
    have hx : x = 0 := hA
    subst hx
    have a0 : c.ad 0 = 0 := t.td.pl.ad0
    rw [a0]
    show Calls Tryd.prog 52 #[.int .i64 0, .int .i64 (lev : Nat), .pointer (some ⟨bt, 0, none⟩), .pointer (some ⟨bl, 0, none⟩), .pointer (some ⟨ba, 0, none⟩)] w _
    have UC := Lib.hid t
    clear t hA a0
    go_enter Tryd.func52, Tryd.ntmps52
    go_wp2
    go_ret
    refine ⟨A, cap, rfl, ?_⟩
    simp only [T.ns, List.map_nil, List.append_nil]
    exact UC.out
  | .n cc l k r, w, xs, A, cap, x, p, lev, hA, hN, hlev, hlen, t => by
    obtain ⟨rfl, hx0, _, _, hl, hr⟩ := hA
    have IHl := Lib.hid (fun (w : World) (xs : List Nat) (A : Option Addr) (cap : Nat) (h1 : xs.length + l.ns.length ≤ 10000) => tell_ok (s := s) (I := I) (w0 := w0) (lev := lev + 1) q l (w := w) (xs := xs) (A := A) (cap := cap) hl (fun j hj => hN j (by simp [T.ns, hj])) (by have := @deep_n cc l r x; omega) h1)
    have IHr := Lib.hid (fun (w : World) (xs : List Nat) (A : Option Addr) (cap : Nat) (h1 : xs.length + r.ns.length ≤ 10000) => tell_ok (s := s) (I := I) (w0 := w0) (lev := lev + 1) q r (w := w) (xs := xs) (A := A) (cap := cap) hr (fun j hj => hN j (by simp [T.ns, hj])) (by have := @deep_n cc l r x; omega) h1)
    rw [ns_len] at hlen
    have hxN := hN x (by simp [T.ns])
    have XN := Lib.hid hxN
    have hdp := (@deep_n cc l r x).1
    have hl60 : ¬ (60 : Int) < (lev : Nat) := by omega
    have hl60b : decide ((60 : Int) < (lev : Nat)) = false := decide_eq_false hl60
    have hlw : IntKind.i64.wrap ((lev : Int) + 1) = (lev : Int) + 1 := IntWalk.i64_in _ (by omega)
    have hk0 : ¬ ((c.ad x : Nat) : Int) = 0 := fun e => hx0 ((t.td.zi (.inr hxN)).1 e)
    have h1 : xs.length + l.ns.length ≤ 10000 := by omega
    have TL : Hid (∀ (w : World) (A : Option Addr) (cap : Nat), Tq c s I B ba bl bt w0 w xs A cap → Calls Tryd.prog 52 #[.int .i64 (c.ad (s.ch x false) : Nat), .int .i64 ((lev : Int) + 1), .pointer (some ⟨bt, 0, none⟩), .pointer (some ⟨bl, 0, none⟩), .pointer (some ⟨ba, 0, none⟩)] w fun e w' => ∃ A' cap', e = .returned (.bool true) ∧ Tq c s I B ba bl bt w0 w' (xs ++ l.ns.map c.ad) A' cap') := Lib.hid fun w A cap t => IHl.out _ _ _ _ h1 t
    obtain ⟨ys, hys⟩ : ∃ ys, ys = xs ++ l.ns.map c.ad := ⟨_, rfl⟩
    have hyl : ys.length = xs.length + l.ns.length := by rw [hys]; simp
    rw [← hys] at TL
    have TR : Hid (∀ (w : World) (A : Option Addr) (cap : Nat), Tq c s I B ba bl bt w0 w (ys ++ [c.ad x]) A cap → Calls Tryd.prog 52 #[.int .i64 (c.ad (s.ch x true) : Nat), .int .i64 ((lev : Int) + 1), .pointer (some ⟨bt, 0, none⟩), .pointer (some ⟨bl, 0, none⟩), .pointer (some ⟨ba, 0, none⟩)] w fun e w' => ∃ A' cap', e = .returned (.bool true) ∧ Tq c s I B ba bl bt w0 w' ((ys ++ [c.ad x]) ++ r.ns.map c.ad) A' cap') := Lib.hid fun w A cap t => IHr.out _ _ _ _ (by rw [List.length_append, hyl]; simp; omega) t
    have hres : Hid (((ys ++ [c.ad x]) ++ r.ns.map c.ad) = xs ++ (T.n cc l x r).ns.map c.ad) := Lib.hid (by rw [hys]; simp [T.ns])
    have hy5 : ys.length < 10000 := by omega
    have hy6 : (((ys.length : Nat) : Int) == 10000) = false := beq_eq_false_iff_ne.2 (by omega)
    have UC := Lib.hid t
    have SC := Lib.hid (And.intro UC.out.cl UC.out.ct)
    clear IHl IHr hl hr hN hx0 hlen hxN hdp hlev t h1 hys hyl
    go_enter Tryd.func52, Tryd.ntmps52
    obtain ⟨k1, k2⟩ := SC.out
    go_wp2_with fail
    have UC := Lib.hid (UC.out.below (Below.refl _ w).drew)
    go_region_with (first
      | (go_at_call 53; (with_reducible refine (UC.out.td.child (.inr XN.out) false).mono ?_); rintro e wc ⟨rfl, hbc⟩; have UC := Lib.hid (UC.out.below hbc); (try clear k1); (try clear k2); have k1 := UC.out.cl; have k2 := UC.out.ct; replace hbc := Lib.hid hbc)
      | (go_at_call 52; (with_reducible refine (TL.out _ _ _ UC.out).mono ?_); rintro e wd ⟨A2, cap2, rfl, hq⟩; have UC := Lib.hid hq; (try clear k1); (try clear k2); have k1 := UC.out.cl; have k2 := UC.out.ct; have ca := UC.out.ca; replace hq := Lib.hid hq))
    all_goals
      have hwr : Hid (Sx (wd.alloc (.cells #[.int .i64 (c.ad x : Nat)] 3)) ⟨0, wd.heap.size + 1⟩ (some ⟨wd.heap.size, 0, none⟩) [c.ad x]) := Lib.hid (fun j y hy => by
        match j, hy with
        | 0, hy =>
          have e : c.ad x = y := by simpa using hy
          subst e
          exact ⟨wd.heap.size, 0, rfl, ⟨Nat.zero_le _, by show wd.heap.size ≠ wd.heap.size + 1; omega⟩, by simp, (Blk.new wd 3 #[.int .i64 (c.ad x : Nat)]).cell 0⟩)
      have RA : Hid ((wd.alloc (.cells #[.int .i64 (c.ad x : Nat)] 3)).ownsRow B 3 1 (.slice A2 ys.length cap2) ys.length (intx ys)) := Lib.hid (World.ownsRow.alloc UC.out.rx.row _)
      have HBS : Hid (B ≤ wd.heap.size) := Lib.hid UC.out.hB
      have hk1 : wd.cell? ⟨ba, 0, none⟩ = some (.slice A2 ys.length cap2) := UC.out.ca
      (try clear ca)
      go_wp2_with (at_builtin; refine wpList_xapp rfl (.tmp 27) (.tmp 29) rfl B ⟨0, wd.heap.size + 1⟩ ys.length 1 1 _ ys [c.ad x] (some ⟨wd.heap.size, 0, none⟩) rfl RA.out rfl hwr.out rfl (by simp) (by omega) (by have := HBS.out; simp; omega) ?_)
      intro v' w5 hown hgrow
      obtain ⟨A5, cap5, rfl, hK5, hT5⟩ := Tq.app q.out UC.out hown hgrow
      have T5 := Lib.hid hT5
      have K5 := Lib.hid hK5
      have hk5 : w5.cell? ⟨ba, 0, none⟩ = some (.slice A2 ys.length cap2) := hK5.cell 0
      have hf5 : w5.frozen? ⟨ba, 0, none⟩ = false := hK5.frozen 0
      clear hown hgrow hT5 hK5 hk1 k1 k2
      have UC := T5
      have SC := Lib.hid (And.intro UC.out.cl UC.out.ct)
      obtain ⟨k1, k2⟩ := SC.out
      go_wp2_with fail
      have UC := Lib.hid (UC.out.below (Below.refl _ _).drew)
      go_region_held3 (fun w' => w'.cell? ⟨bl, 0, none⟩ = some (.pointer (some ⟨c.p, 0, none⟩)) ∧ w'.cell? ⟨bt, 0, none⟩ = some (fvT ba bl bt)) (first | go_keep | with_reducible exact SC.out) (first
        | (go_at_call 53; (with_reducible refine (UC.out.td.child (.inr XN.out) true).mono ?_); rintro e wc ⟨rfl, hbc⟩; have UC := Lib.hid (UC.out.below hbc); have SC := Lib.hid (And.intro UC.out.cl UC.out.ct); replace hbc := Lib.hid hbc)
        | (go_at_call 52; (with_reducible refine (TR.out _ _ _ UC.out).mono ?_); rintro e we ⟨A6, cap6, rfl, hq⟩; have UC := Lib.hid hq; have SC := Lib.hid (And.intro UC.out.cl UC.out.ct); replace hq := Lib.hid hq))
      all_goals
        go_wp2_with fail
        go_ret
        refine ⟨A6, cap6, rfl, ?_⟩
        rw [← hres.out]
        exact UC.out
end Go.Proofs.YtiacclmapicmdaaDoor
