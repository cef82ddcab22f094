/- The document's lists in memory: append as a step of a region that draws its order; Push at the front. No condition but that its blocks are known. -/
import Derived.Test.YthklbkgehfgdgaaDoorChRWith
namespace Go.Proofs.YthklbkgehfgdgaaDoor
open Go.RowKit

/-- append of a slice of places, nil or not, onto a row that the call made, as a step of a region that draws. -/
theorem step_xapp {w W : World} {ops : Array Oper} {o : Oper} {a : Act} {K : Act → World → Prop} {Q : Exit → Act → World → Prop} {E : Prop} (hgd : o.guard = none) (s x : Operand)
    (ho : o.op = .call { callee := .builtin .append, args := #[s, x], argTypes := #[26, 26] })
    (B : Bx) (n m c : Nat) (v : Value) (xs news : List Nat) (A : Option Addr) (hs : a.eval s = v) (hown : W.ownsRow w.heap.size 3 1 v n (intx xs)) (hx : a.eval x = .slice A m c)
    (hsg : Sx W B A news) (hm : news.length = m) (hz : A = none → c = 0) (hb : n + m ≤ 100000) (hbl : Below w.heap.size w W)
    (h : ∀ v' w', w'.ownsRow w.heap.size 3 1 v' (n + m) (intx (xs ++ news)) → W.grownBy w' v.ownBlock → Below w.heap.size w w' → K (a.put o.dst v') w') :
    if Region.wanted o (yielded ops a.tmps) = true then Oper.wp Tryd.prog o a W K Q else E := by
  obtain ⟨i0, hi, hz0, hz1, hz2⟩ := info_parts intInfo
  cases A with
  | none =>
    have hn : news = [] := by
      cases news with
      | nil => rfl
      | cons y ys =>
        obtain ⟨b, o, e, _⟩ := hsg 0 y rfl
        cases e
    subst hn
    have hm0 : m = 0 := hm.symm
    subst hm0
    rw [hz rfl] at hx
    have hw : Region.wanted o (yielded ops a.tmps) = true := by simp [Region.wanted, hgd]
    rw [if_pos hw]
    have hrun := run_append_owned_none (P := Tryd.prog) (w := W) w.heap.size 26 o.type 3 i0 1 Tryd.underlying26 hi v n (intx xs) hown
    unfold Oper.wp
    simp [execOp, ho, resolve, invoke, builtin, hs, hx, hrun, Result.andThen]
    exact h v W (by rw [List.append_nil]; exact hown) ⟨rfl, rfl, rfl, Nat.le_refl _, fun _ _ _ => rfl⟩ hbl
  | some ad =>
    refine step_ap W hgd s x 26 ho w.heap.size 3 i0 (.int .i64 0) 1 8 Tryd.underlying26 hi hz0 hz1 hz2 rfl (by decide) v n (intx xs) hs hown ad m c (intx news) hx (by rw [intx_len, hm, Nat.mul_one]) ?_ (intx_one _) (by unfold maxLen; omega) (by omega) hbl.size ?_
    · intro j u hu
      obtain ⟨y, hy, rfl⟩ := intx_at hu
      obtain ⟨b, o, e, _, _, hc⟩ := hsg j y hy
      cases e
      rw [addr_plus]
      exact hc
    · intro v' w' h1 h2
      rw [← intx_app] at h1
      exact h v' w' h1 h2 (hbl.grown h2 hbl.size (fun k hk => (World.ownsRow.lt hown k hk).1))
/-- A function's box of the document's lists, its result's variable behind it. -/
structure Vb (w0 w : World) (B : Bx) (hb ob cp : Nat) (A : Nat → Option Addr) (c : Nat → Nat) (L : Nat → List Nat) (b : Nat) : Prop where
  rb : Rb w0 w B hb ob cp A c L b
  rs : Blk w (b + 1) 29 #[.slice none 0 0, .slice none 0 0]
section
variable {w0 w w' : World} {B : Bx} {hb ob cp b : Nat} {A : Nat → Option Addr} {c : Nat → Nat} {L : Nat → List Nat} {f : Nat → Int}
theorem Vb.below (v : Vb w0 w B hb ob cp A c L b) (h : Below w.heap.size w w') : Vb w0 w' B hb ob cp A c L b := ⟨v.rb.below h, v.rs.below h v.rs.lt⟩
theorem Vb.drew (v : Vb w0 w B hb ob cp A c L b) : Vb w0 w.drew B hb ob cp A c L b := v.below ((Below.refl _ w).drew)
theorem Vb.new (x : Xr w B hb ob cp A c L) : Vb w ((w.alloc (.cells #[.slice (some ⟨hb, 0, none⟩) 3 3, .slice (some ⟨ob, 0, none⟩) 3 cp] 29)).alloc (.cells #[.slice none 0 0, .slice none 0 0] 29)) B hb ob cp A c L w.heap.size :=
  ⟨(Rb.new x).below (below_one _ _), by
    have := Blk.new (w.alloc (.cells #[.slice (some ⟨hb, 0, none⟩) 3 3, .slice (some ⟨ob, 0, none⟩) 3 cp] 29)) 29 #[.slice none 0 0, .slice none 0 0]
    simpa using this⟩
theorem Vb.cells (v : Vb w0 w B hb ob cp A c L b) : (w.cell? ⟨b + 1, 0, none⟩ = some (.slice none 0 0) ∧ w.cell? ⟨b + 1, 1, none⟩ = some (.slice none 0 0)) ∧ w.frozen? ⟨b + 1, 0, none⟩ = false ∧ w.frozen? ⟨b + 1, 1, none⟩ = false :=
  ⟨⟨v.rs.cell 0, v.rs.cell 1⟩, v.rs.frozen 0, v.rs.frozen 1⟩
/-- The result's variable, written. -/
theorem Vb.put (v : Vb w0 w B hb ob cp A c L b) (hb0 : w0.heap.size ≤ b + 1) (x y : Value) :
    Blk ((w.setCell ⟨b + 1, 0, none⟩ x).setCell ⟨b + 1, 1, none⟩ y) (b + 1) 29 #[x, y] ∧ Below w0.heap.size w0 ((w.setCell ⟨b + 1, 0, none⟩ x).setCell ⟨b + 1, 1, none⟩ y) :=
  ⟨(v.rs.put 0 x).put 1 y, (v.rb.fr.setCell (p := ⟨b + 1, 0, none⟩) hb0 _).setCell (p := ⟨b + 1, 1, none⟩) hb0 _⟩
/-- The block q is none of the lists'. -/
structure Xo (hb ob : Nat) (A : Nat → Option Addr) (L : Nat → List Nat) (q : Nat) : Prop where
  h : hb ≠ q
  o : ob ≠ q
  a : ∀ i, i < 3 → ∀ a, A i = some a → L (hdN i) ≠ [] → a.block ≠ q
theorem Xr.off (x : Xr w B hb ob cp A c L) {q : Nat} (hq : w.heap.size ≤ q) : Xo hb ob A L q := by
  have h1 := x.hl
  have h2 := x.ol
  refine ⟨by omega, by omega, fun i hi a ha hn => ?_⟩
  obtain ⟨y, ys, e⟩ := List.exists_cons_of_ne_nil hn
  obtain ⟨b', o, e2, _, h3, _⟩ := x.sx i hi 0 y (by rw [e]; rfl)
  rw [ha] at e2
  cases e2
  show b' ≠ q
  omega
theorem Xo.up (x : Xo hb ob A L b) {i W ob' h : Nat} {A1 : Option Addr} {l' : List Nat} (hi : i < 3) (hh : h = hdN i) (hb' : b < W) (ho : W ≤ ob') (ha : ∀ a, A1 = some a → l' ≠ [] → W ≤ a.block) : Xo hb ob' (upN A i A1) (upL L h l') b := by
  refine ⟨x.h, by omega, fun j hj a hA hn => ?_⟩
  by_cases e : j = i
  · subst e
    unfold upN at hA
    rw [if_pos rfl] at hA
    unfold upL at hn
    rw [hh, if_pos rfl] at hn
    have := ha a hA hn
    omega
  · unfold upN at hA
    rw [if_neg e] at hA
    have e2 : hdN j ≠ h := by rw [hh]; unfold hdN; omega
    unfold upL at hn
    rw [if_neg e2] at hn
    exact x.a j hj a hA hn
/-- A block that is none of the lists' is written. -/
theorem Xr.wrote (x : Xr w B hb ob cp A c L) {q : Nat} (o : Xo hb ob A L q) (hk : ∀ k, k ≠ q → w'.heap[k]? = w.heap[k]?) (hs : w.heap.size ≤ w'.heap.size) : Xr w' B hb ob cp A c L := by
  refine ⟨x.hB, Nat.lt_of_lt_of_le x.hl hs, fun i hi => (World.cell?_of_block (w := w) (hk hb o.h)).trans (x.hc i hi), x.oB, Nat.lt_of_lt_of_le x.ol hs, fun i hi => (World.cell?_of_block (w := w) (hk ob o.o)).trans (x.oc i hi), fun i hi j y hy => ?_, x.cap, x.cp⟩
  obtain ⟨b', o', e, h3, h4, h5⟩ := x.sx i hi j y hy
  have hn : L (hdN i) ≠ [] := by
    intro h
    rw [h] at hy
    simp at hy
  exact ⟨b', o', e, h3, Nat.lt_of_lt_of_le h4 hs, (World.cell?_of_block (w := w) (hk b' (o.a i hi _ e hn))).trans h5⟩
theorem Xr.put2 (x : Xr w B hb ob cp A c L) {q : Nat} (o : Xo hb ob A L q) (u v : Value) : Xr ((w.setCell ⟨q, 0, none⟩ u).setCell ⟨q, 1, none⟩ v) B hb ob cp A c L :=
  x.wrote o (fun k hk => by rw [Below.heap_setCell _ _ _ _ (show k ≠ q from hk), Below.heap_setCell _ _ _ _ (show k ≠ q from hk)]) (by simp [World.setCell])
set_option maxRecDepth 100000 in
theorem rpush_in (x : Xr w B hb ob cp A c L) (h n : Nat) (d : Bool) (ho : ow L n ≠ 0) :
    Calls Tryd.prog 15 #[xv hb ob cp, .int .i64 h, .int .i64 n, .bool d] w fun e w' => e = .returned (.tuple #[xv hb ob cp, .int .i64 8]) ∧ Below w.heap.size w w' := by
  obtain ⟨w2, hw2⟩ : ∃ w2, w2 = (w.alloc (.cells #[.slice (some ⟨hb, 0, none⟩) 3 3, .slice (some ⟨ob, 0, none⟩) 3 cp] 29)).alloc (.cells #[.slice none 0 0, .slice none 0 0] 29) := ⟨_, rfl⟩
  obtain ⟨b, hbe⟩ : ∃ b, b = w.heap.size := ⟨_, rfl⟩
  have V1 : Hid (Vb w w2 B hb ob cp A c L b) := Lib.hid (by rw [hw2, hbe]; exact Vb.new x)
  obtain ⟨o, hoe⟩ : ∃ o, o = ow L n := ⟨_, rfl⟩
  have OW : Hid (Calls Tryd.prog 33 #[.agg #[.slice (some ⟨hb, 0, none⟩) 3 3, .slice (some ⟨ob, 0, none⟩) 3 cp], .int .i64 n] w2 fun e w'' => e = .returned (.int .i64 (o : Nat)) ∧ Below w2.heap.size w2 w'') := Lib.hid (by rw [hoe]; exact rowner_any V1.out.rb.xr n)
  have hoi : ¬ (o : Int) = 0 := by omega
  have hb1 : w.heap.size ≤ b + 1 := by omega
  have HW := Lib.hid hw2
  have HBE := Lib.hid hbe
  obtain ⟨k0, k1⟩ := V1.out.rb.bx
  clear x hw2 hbe hoe ho
  unfold xv
  go_enter Tryd.func15, Tryd.ntmps15
  go_wp2_with fail
  rw [← HBE.out, ← HW.out]
  refine OW.out.mono ?_
  rintro e wd ⟨rfl, hbc⟩
  have V2 := Lib.hid (V1.out.below hbc)
  clear hbc k0 k1
  obtain ⟨k0, k1⟩ := V2.out.rb.bx
  obtain ⟨⟨r0, r1⟩, z0, z1⟩ := V2.out.cells
  go_wp2_with fail
  obtain ⟨hR, hF⟩ := V2.out.put (by omega) (.slice (some ⟨hb, 0, none⟩) 3 3) (.slice (some ⟨ob, 0, none⟩) 3 cp)
  refine bodyPost_ret (resL2 rfl rfl hR) rfl ?_
  exact ⟨rfl, hF⟩
end
end Go.Proofs.YthklbkgehfgdgaaDoor
