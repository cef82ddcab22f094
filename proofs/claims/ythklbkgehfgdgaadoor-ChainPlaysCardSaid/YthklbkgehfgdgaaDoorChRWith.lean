/- The document's lists in memory: With. No condition but that its blocks are known. -/
import Derived.Test.YthklbkgehfgdgaaDoorChRNext
import Derived.Laws.ResultCell
namespace Go.Proofs.YthklbkgehfgdgaaDoor
open Go.RowKit

theorem infoL : (Tryd.prog.info? 29).map (·.size) = some 2 := by kernel_rfl
theorem load_L {w : World} {g : Nat} {a b : Value} (hb : Blk w g 29 #[a, b]) : (loadVar 29 ⟨g, 0, none⟩).run Tryd.prog w = .ok (.agg #[a, b]) w :=
  run_loadVar_row w g 29 29 _ _ _ hb Tryd.underlying29 rfl infoL
section
variable {fn : Func} {p u v : Tmp} {tmps : Array Value} {w : World} {g : Nat} {a b : Value}
theorem resL1 (h : fn.results = #[.cell p 29]) (hp : tmps.getD p undef = .pointer (some ⟨g, 0, none⟩)) (hb : Blk w g 29 #[a, b]) :
    (results fn tmps).run Tryd.prog w = .ok (.agg #[a, b]) w := by
  have hp' : tmps[p]?.getD undef = .pointer (some ⟨g, 0, none⟩) := by simpa using hp
  simp [results, h, hp', asAddr, load_L hb]
theorem resL2 (h : fn.results = #[.cell p 29, .tmp u]) (hp : tmps.getD p undef = .pointer (some ⟨g, 0, none⟩)) (hb : Blk w g 29 #[a, b]) :
    (results fn tmps).run Tryd.prog w = .ok (.tuple #[.agg #[a, b], tmps.getD u undef]) w := by
  have hp' : tmps[p]?.getD undef = .pointer (some ⟨g, 0, none⟩) := by simpa using hp
  simp [results, h, hp', asAddr, load_L hb]
theorem resL3 (h : fn.results = #[.cell p 29, .tmp u, .tmp v]) (hp : tmps.getD p undef = .pointer (some ⟨g, 0, none⟩)) (hb : Blk w g 29 #[a, b]) :
    (results fn tmps).run Tryd.prog w = .ok (.tuple #[.agg #[a, b], tmps.getD u undef, tmps.getD v undef]) w := by
  have hp' : tmps[p]?.getD undef = .pointer (some ⟨g, 0, none⟩) := by simpa using hp
  simp [results, h, hp', asAddr, load_L hb]
end
theorem rowInfo : (Tryd.prog.info? 26).map (fun i => (i.zero, i.size, i.bytes)) = some (some (.slice none 0 0), 1, 24) := by kernel_rfl
theorem step_ap {P : Program} (w : World) {ops : Array Oper} {o : Oper} {a : Act} {K : Act → World → Prop} {Q : Exit → Act → World → Prop} {E : Prop} (hgd : o.guard = none) (s x : Operand) (t : TypeId)
    (ho : o.op = .call { callee := .builtin .append, args := #[s, x], argTypes := #[t, t] })
    (base : Nat) (e : TypeId) (i : TypeInfo) (z : Value) (size bytes : Nat) (ht : P.underlying t = some (.slice e)) (hi : P.info? e = some i) (hz : i.zero = some z)
    (hsize : i.size = size) (hby : i.bytes = bytes) (hzs : z.cells.size = size) (hsz : 0 < size)
    (v : Value) (n : Nat) (xs : List Value) (hs : a.eval s = v) (hown : w.ownsRow base e size v n xs)
    (ad : Addr) (m c : Nat) (news : List Value) (hx : a.eval x = .slice (some ad) m c) (hl : news.length = m * size) (hnews : ∀ j u, news[j]? = some u → w.cell? (ad.add j) = some u) (h1 : ∀ u ∈ news, u.oneCell' = true)
    (h63 : n + m ≤ maxLen) (hbytes : (n + m) * bytes ≤ 140737488355328) (hbase : base ≤ w.heap.size)
    (h : ∀ v' w', w'.ownsRow base e size v' (n + m) (xs ++ news) → w.grownBy w' v.ownBlock → K (a.put o.dst v') w') :
    if Region.wanted o (yielded ops a.tmps) = true then Oper.wp P o a w K Q else E := by
  have hw : Region.wanted o (yielded ops a.tmps) = true := by simp [Region.wanted, hgd]
  rw [if_pos hw]
  exact wp_append_own w s x t ho base e i z size bytes ht hi hz hsize hby hzs hsz v n xs hs hown ad m c news hx hl hnews h1 h63 hbytes hbase fun v' w' h2 h3 _ => h v' w' h2 h3
/-- The row of the three lists, appended to an empty row of the call's own. -/
theorem step_rows {w W : World} {ops : Array Oper} {o : Oper} {a : Act} {K : Act → World → Prop} {Q : Exit → Act → World → Prop} {E : Prop} (hgd : o.guard = none) (s x : Operand)
    (ho : o.op = .call { callee := .builtin .append, args := #[s, x], argTypes := #[27, 27] })
    (g ob cp : Nat) (v : Nat → Value) (hs : a.eval s = .slice (some ⟨g, 0, none⟩) 0 0) (hg : W.heap[g]? = some (.cells #[] 26 (0, 0))) (hx : a.eval x = .slice (some ⟨ob, 0, none⟩) 3 cp)
    (hb : Below w.heap.size w W) (hwg : w.heap.size ≤ g) (hc0 : ∀ i, i < 3 → w.cell? ⟨ob, i, none⟩ = some (v i)) (hob : ob < w.heap.size) (h1 : ∀ i, (v i).oneCell' = true)
    (h : ∀ g' c' w', (w'.ownsRow w.heap.size 26 1 (.slice (some ⟨g', 0, none⟩) 3 c') 3 [v 0, v 1, v 2]) → W.grownBy w' (some g) → Below w.heap.size w w' → (g' = g ∨ g' = W.heap.size) → K (a.put o.dst (.slice (some ⟨g', 0, none⟩) 3 c')) w') :
    if Region.wanted o (yielded ops a.tmps) = true then Oper.wp Tryd.prog o a W K Q else E := by
  have hc : ∀ i, i < 3 → W.cell? ⟨ob, i, none⟩ = some (v i) := fun i hi => (hb.cell (p := ⟨ob, i, none⟩) hob).trans (hc0 i hi)
  obtain ⟨i0, hi, hz0, hz1, hz2⟩ := info_parts rowInfo
  refine Go.step_append_lies W hgd s x 27 ho w.heap.size 26 i0 _ 1 24 Tryd.underlying27 hi hz0 hz1 hz2 (by kernel_rfl) (by decide) (.slice (some ⟨g, 0, none⟩) 0 0) 0 [] hs
    ⟨rfl, .inr ⟨g, 0, _, rfl, hwg, hg, Nat.le_refl _, by decide, rfl, rfl⟩⟩ ⟨ob, 0, none⟩ 3 cp [v 0, v 1, v 2] hx rfl ?_ ?_ (by decide) (by decide) (by decide) hb.size W.heap.size rfl ?_
  · intro j u hu
    rw [addr_plus, Nat.zero_add]
    match j, hu with
    | 0, hu => rw [hc 0 (by decide)]; simpa using hu
    | 1, hu => rw [hc 1 (by decide)]; simpa using hu
    | 2, hu => rw [hc 2 (by decide)]; simpa using hu
  · intro u hu
    simp at hu
    rcases hu with rfl | rfl | rfl <;> exact h1 _
  · intro g' c' w' h1 h2 h3 _
    refine h g' c' w' h1 h2 (hb.grown h2 hb.size (fun k hk => by
      have e : g = k := by simpa [Value.ownBlock] using hk
      omega)) ?_
    rcases h3 with h3 | h3
    · left
      simpa [Value.ownBlock] using h3.symm
    · exact .inr h3
section
variable {w w' : World} {B : Bx} {hb ob cp b : Nat} {A : Nat → Option Addr} {c : Nat → Nat} {L : Nat → List Nat} {f : Nat → Int}
/-- What With has made when its first statement is done. -/
structure Pw (w2 W : World) (hb g' c7 q : Nat) (v : Nat → Value) : Prop where
  own : W.ownsRow w2.heap.size 26 1 (.slice (some ⟨g', 0, none⟩) 3 c7) 3 [v 0, v 1, v 2]
  bq : Blk W q 29 #[.slice (some ⟨hb, 0, none⟩) 3 3, .slice (some ⟨g', 0, none⟩) 3 c7]
  bl : Below w2.heap.size w2 W
  ne : g' ≠ q
  ge : w2.heap.size ≤ q ∧ w2.heap.size ≤ g'
theorem pw_new {w2 w' : World} {hb g' c7 : Nat} {v : Nat → Value} (own : w'.ownsRow w2.heap.size 26 1 (.slice (some ⟨g', 0, none⟩) 3 c7) 3 [v 0, v 1, v 2]) (bl : Below w2.heap.size w2 w') :
    Pw w2 (w'.alloc (.cells #[.slice (some ⟨hb, 0, none⟩) 3 3, .slice (some ⟨g', 0, none⟩) 3 c7] 29)) hb g' c7 w'.heap.size v := by
  have hg := World.ownsRow.lt own g' rfl
  exact ⟨World.ownsRow.alloc own _, Blk.new _ _ _, bl.alloc bl.size _, by omega, bl.size, hg.1⟩
theorem own_keep {w w' : World} {base : Nat} {e : TypeId} {size n : Nat} {v : Value} {xs : List Value} (h : w.ownsRow base e size v n xs) (hk : ∀ k, v.ownBlock = some k → w'.heap[k]? = w.heap[k]?) : w'.ownsRow base e size v n xs := by
  refine ⟨h.1, ?_⟩
  rcases h.2 with h' | ⟨g, c, cur, h1, h2, h3, h4⟩
  · exact .inl h'
  · exact .inr ⟨g, c, cur, h1, h2, (hk g (by rw [h1]; rfl)).trans h3, h4⟩
theorem pw_put {w2 w' : World} {hb g' c7 q : Nat} {v : Nat → Value} {x y : Value} (own : w'.ownsRow w2.heap.size 26 1 (.slice (some ⟨g', 0, none⟩) 3 c7) 3 [v 0, v 1, v 2]) (bl : Below w2.heap.size w2 w')
    (bq : Blk w' q 29 #[x, y]) (ne : g' ≠ q) (hq : w2.heap.size ≤ q) :
    Pw w2 ((w'.setCell ⟨q, 0, none⟩ (.slice (some ⟨hb, 0, none⟩) 3 3)).setCell ⟨q, 1, none⟩ (.slice (some ⟨g', 0, none⟩) 3 c7)) hb g' c7 q v := by
  have hg := World.ownsRow.lt own g' rfl
  refine ⟨own_keep own fun k hk => ?_, (bq.put 0 _).put 1 _, (bl.setCell hq _).setCell hq _, ne, hq, hg.1⟩
  have : g' = k := by simpa [Value.ownBlock] using hk
  subst this
  rw [Below.heap_setCell _ _ _ _ (show g' ≠ q from ne), Below.heap_setCell _ _ _ _ (show g' ≠ q from ne)]
def upN {α : Type} (A : Nat → α) (i : Nat) (a : α) : Nat → α := fun k => if k = i then a else A k
set_option maxRecDepth 100000 in
set_option maxHeartbeats 4000000 in
theorem rwith_any (x : Xr w B hb ob cp A c L) (hB : B.b ≤ w.heap.size ∧ B.t < w.heap.size) {i : Nat} (hi : i < 3) (h : Nat) (hh : h = hdN i) (A' : Option Addr) (k' c' : Nat) (l' : List Nat)
    (hs : Sx w B A' l') (hk : l'.length = k') (hkc : k' ≤ c') (hz : A' = none → c' = 0) (h14 : k' ≤ 14) :
    Calls Tryd.prog 35 #[xv hb ob cp, .int .i64 h, .slice A' k' c'] w fun e w' => ∃ ob' cp', e = .returned (xv hb ob' cp') ∧
      Xr w' B hb ob' cp' (upN A i A') (upN c i c') (upL L h l') ∧ Below w.heap.size w w' ∧ w.heap.size ≤ ob' := by
  subst hh
  have HS : Hid (Sx w B A' l' ∧ l'.length = k' ∧ k' ≤ c' ∧ (A' = none → c' = 0) ∧ k' ≤ 14) := Lib.hid ⟨hs, hk, hkc, hz, h14⟩
  clear hs hk hkc hz h14
  have hcp := x.cp
  obtain ⟨i', hi', e1, e2⟩ := h3_hd (hdN_in i)
  have hii : i' = i := by unfold hdN at e1; omega
  subst hii
  obtain ⟨w1, hw1⟩ : ∃ w1, w1 = w.alloc (.cells #[.slice (some ⟨hb, 0, none⟩) 3 3, .slice (some ⟨ob, 0, none⟩) 3 cp] 29) := ⟨_, rfl⟩
  obtain ⟨w2, hw2⟩ : ∃ w2, w2 = w1.alloc (.cells #[.slice none 0 0, .slice none 0 0] 29) := ⟨_, rfl⟩
  obtain ⟨b, hbe⟩ : ∃ b, b = w.heap.size := ⟨_, rfl⟩
  have R1 : Hid (Rb w w2 B hb ob cp A c L b) := Lib.hid (by rw [hw2, hbe, hw1]; exact (Rb.new x).below (below_one _ _))
  have s1 : w1.heap.size = w.heap.size + 1 := by rw [hw1]; simp
  have s2 : w2.heap.size = w.heap.size + 2 := by rw [hw2]; simp [s1]
  replace s1 := Lib.hid s1
  replace s2 := Lib.hid s2
  have HW1 := Lib.hid hw1
  have HW2 := Lib.hid hw2
  have HBE := Lib.hid hbe
  have SC : Hid (X2 w2 b hb ob cp) := Lib.hid R1.out.bx
  have SE : Hid (X2 w2.drew b hb ob cp) := SC
  have BR : Hid (Blk w2 (b + 1) 29 #[.slice none 0 0, .slice none 0 0]) := Lib.hid (by
    have := Blk.new w1 29 #[.slice none 0 0, .slice none 0 0]
    rwa [← HW2.out, s1.out, ← HBE.out] at this)
  have XW := Lib.hid x
  replace e2 := Lib.hid e2
  clear x hw1 hw2 hbe e1
  unfold xv
  go_enter Tryd.func35, Tryd.ntmps35
  go_wp2_with fail
  rw [← HBE.out, ← HW1.out, ← HW2.out]
  obtain ⟨k0, k1⟩ := SC.out
  have XC : Hid (Below w2.heap.size w2 w2) := Lib.hid (Below.refl _ _)
  have KEEP : Hid (∀ W, Below w2.heap.size w2 W → X2 W b hb ob cp) := Lib.hid fun W hX => x2_keep R1.out.bx R1.out.lt hX
  have HG2 : Hid (((w2.alloc (.cells #[.slice none 0 0, .slice none 0 0] 29)).alloc (.cells #[] 26)).heap[w2.heap.size + 1]? = some (.cells #[] 26 (0, 0))) := Lib.hid (by
    have := heap_alloc_new (w2.alloc (.cells #[.slice none 0 0, .slice none 0 0] 29)) (.cells #[] 26)
    simpa using this)
  have OC := Lib.hid R1.out.xr.oc
  have OL := Lib.hid R1.out.xr.ol
  go_region_held_law (fun w' => X2 w' b hb ob cp) (first | (refine KEEP.out _ ?_; (repeat' (first | (with_reducible exact XC.out) | (with_reducible exact Below.refl _ _) | (refine Below.drew ?_) | (refine Below.alloc ?_ ?_ _) | (refine Below.setCell ?_ ?_ _))); all_goals (first | exact Nat.le_refl _ | omega | (simp; done) | (simp; omega)); done) | (have hs := XC.out.size; refine KEEP.out _ ?_; (repeat' (first | (with_reducible exact XC.out) | (with_reducible exact Below.refl _ _) | (refine Below.drew ?_) | (refine Below.alloc ?_ ?_ _) | (refine Below.setCell ?_ ?_ _))); all_goals (first | exact Nat.le_refl _ | omega | (simp; done) | (simp; omega)); done) | go_keep) (first
    | (refine step_rows (w := w2) rfl (.tmp 11) (.tmp 13) rfl _ ob cp (fun i => .slice (A i) (L (hdN i)).length (c i)) rfl ?hg rfl ?hb ?hwg OC.out OL.out (fun _ => rfl) ?_
       case hg => (first | exact heap_alloc_new _ _ | exact (Blk.new _ _ _).alloc _ | exact HG2.out)
       case hb => ((repeat' (first | (with_reducible exact XC.out) | (with_reducible exact Below.refl _ _) | (refine Below.drew ?_) | (refine Below.alloc ?_ ?_ _) | (refine Below.setCell ?_ ?_ _))); all_goals (first | exact Nat.le_refl _ | omega | (simp; done) | (simp; omega)))
       case hwg => (first | exact Nat.le_refl _ | (simp; done) | (simp; omega))
       intro g' c7 w' hown hgrow hbel hlie
       have XC := Lib.hid hbel
       (try (have bq0 : Blk ((w2.alloc (.cells #[] 26)).alloc (.cells #[.slice none 0 0, .slice none 0 0] 29)) (w2.heap.size + 1) 29 #[.slice none 0 0, .slice none 0 0] := by
               have := Blk.new (w2.alloc (.cells #[] 26)) 29 #[.slice none 0 0, .slice none 0 0]
               simpa using this
             have bq : Blk w' (w2.heap.size + 1) 29 #[.slice none 0 0, .slice none 0 0] := (hgrow.block _ bq0.lt (by simp)).trans bq0
             have q0 : w'.cell? ⟨w2.heap.size + 1, 0, none⟩ = some (.slice none 0 0) := bq.cell 0
             have q1 : w'.cell? ⟨w2.heap.size + 1, 1, none⟩ = some (.slice none 0 0) := bq.cell 1
             have z0 : w'.frozen? ⟨w2.heap.size + 1, 0, none⟩ = false := bq.frozen 0
             have z1 : w'.frozen? ⟨w2.heap.size + 1, 1, none⟩ = false := bq.frozen 1
             replace bq := Lib.hid bq))
       (try (have bq0 : Blk ((w2.alloc (.cells #[.slice none 0 0, .slice none 0 0] 29)).alloc (.cells #[] 26)) w2.heap.size 29 #[.slice none 0 0, .slice none 0 0] := (Blk.new w2 29 #[.slice none 0 0, .slice none 0 0]).alloc _
             have bq : Blk w' w2.heap.size 29 #[.slice none 0 0, .slice none 0 0] := (hgrow.block _ bq0.lt (by simp)).trans bq0
             have q0 : w'.cell? ⟨w2.heap.size, 0, none⟩ = some (.slice none 0 0) := bq.cell 0
             have q1 : w'.cell? ⟨w2.heap.size, 1, none⟩ = some (.slice none 0 0) := bq.cell 1
             have z0 : w'.frozen? ⟨w2.heap.size, 0, none⟩ = false := bq.frozen 0
             have z1 : w'.frozen? ⟨w2.heap.size, 1, none⟩ = false := bq.frozen 1
             replace bq := Lib.hid bq))
       replace hown := Lib.hid hown
       replace hgrow := Lib.hid hgrow
       replace hlie := Lib.hid hlie))
  all_goals
    first
      | (have PW : Hid (Pw w2 _ hb g' c7 (w'.heap.size) fun i => .slice (A i) (L (hdN i)).length (c i)) := Lib.hid (pw_new hown.out XC.out)
         obtain ⟨W3, hW3⟩ : ∃ W3, W3 = w'.alloc (.cells #[.slice (some ⟨hb, 0, none⟩) 3 3, .slice (some ⟨g', 0, none⟩) 3 c7] 29) := ⟨_, rfl⟩
         rw [← hW3] at PW
         rw [← hW3]
         obtain ⟨q, hqe⟩ : ∃ q, q = w'.heap.size := ⟨_, rfl⟩
         rw [← hqe] at PW
         rw [← hqe]
         clear hW3 hqe)
      | (have hq : g' ≠ w2.heap.size + 1 := by
           have h := hlie.out
           rcases h with h | h
           · omega
           · rw [h]; simp [World.drew] <;> omega
         have PW : Hid (Pw w2 _ hb g' c7 (w2.heap.size + 1) fun i => .slice (A i) (L (hdN i)).length (c i)) := Lib.hid (pw_put hown.out XC.out bq.out hq (by omega))
         obtain ⟨W3, hW3⟩ : ∃ W3, W3 = (w'.setCell ⟨w2.heap.size + 1, 0, none⟩ (.slice (some ⟨hb, 0, none⟩) 3 3)).setCell ⟨w2.heap.size + 1, 1, none⟩ (.slice (some ⟨g', 0, none⟩) 3 c7) := ⟨_, rfl⟩
         rw [← hW3] at PW
         rw [← hW3]
         obtain ⟨q, hqe⟩ : ∃ q, q = w2.heap.size + 1 := ⟨_, rfl⟩
         rw [← hqe] at PW
         rw [← hqe]
         clear hW3 hqe hq q0 q1 z0 z1 bq bq0)
      | (have hq : g' ≠ w2.heap.size := by
           have h := hlie.out
           rcases h with h | h
           · omega
           · rw [h]; simp [World.drew] <;> omega
         have PW : Hid (Pw w2 _ hb g' c7 (w2.heap.size) fun i => .slice (A i) (L (hdN i)).length (c i)) := Lib.hid (pw_put hown.out XC.out bq.out hq (Nat.le_refl _))
         obtain ⟨W3, hW3⟩ : ∃ W3, W3 = (w'.setCell ⟨w2.heap.size, 0, none⟩ (.slice (some ⟨hb, 0, none⟩) 3 3)).setCell ⟨w2.heap.size, 1, none⟩ (.slice (some ⟨g', 0, none⟩) 3 c7) := ⟨_, rfl⟩
         rw [← hW3] at PW
         rw [← hW3]
         obtain ⟨q, hqe⟩ : ∃ q, q = w2.heap.size := ⟨_, rfl⟩
         rw [← hqe] at PW
         rw [← hqe]
         clear hW3 hqe hq q0 q1 z0 z1 bq bq0)
    have X3 := Lib.hid (R1.out.xr.below PW.out.bl)
    have IX : Hid (Calls Tryd.prog 38 #[.slice (some ⟨hb, 0, none⟩) 3 3, .int .i64 (hdN i' : Nat)] W3 fun e w'' => e = .returned (.int .i64 (i' : Nat)) ∧ W3 = w'') := Lib.hid (by
      have := rindex_any (w := W3) 3 3 (hdN i') X3.out.heads rfl (by decide)
      rwa [e2.out] at this)
    obtain ⟨k0, k1⟩ := KEEP.out _ PW.out.bl
    have m0 : W3.cell? ⟨q, 0, none⟩ = some (.slice (some ⟨hb, 0, none⟩) 3 3) := PW.out.bq.cell 0
    have m1 : W3.cell? ⟨q, 1, none⟩ = some (.slice (some ⟨g', 0, none⟩) 3 c7) := PW.out.bq.cell 1
    have vv : ∀ j, j < 3 → W3.cell? ⟨g', j, none⟩ = some (.slice (A j) (L (hdN j)).length (c j)) := fun j hj => by
      have h3 : j = 0 ∨ j = 1 ∨ j = 2 := by omega
      rw [World.ownsRow.cellAt PW.out.own j (by omega)]
      rcases h3 with rfl | rfl | rfl <;> rfl
    have n0 := vv i' hi
    have n1 := World.ownsRow.frozenAt PW.out.own i'
    have VV := Lib.hid vv
    have bR : Blk W3 (b + 1) 29 #[.slice none 0 0, .slice none 0 0] := BR.out.below PW.out.bl BR.out.lt
    have r0 : W3.cell? ⟨b + 1, 0, none⟩ = some (.slice none 0 0) := bR.cell 0
    have r1 : W3.cell? ⟨b + 1, 1, none⟩ = some (.slice none 0 0) := bR.cell 1
    have BR3 := Lib.hid bR
    have z0 := bR.frozen 0
    have z1 := bR.frozen 1
    have ne0 : ¬ g' = q := PW.out.ne
    have ne1 : ¬ g' = b + 1 := by have := PW.out.ge; have := s2.out; have := HBE.out; omega
    have ne2 : ¬ q = b + 1 := by have := PW.out.ge; have := s2.out; have := HBE.out; omega
    have ne3 : ¬ b + 1 = q := by omega
    have ne4 : ¬ b + 1 = g' := by omega
    have ne5 : ¬ q = g' := by omega
    have NE := Lib.hid ne1
    clear vv bR hown hgrow hlie
    have hii : (i' : Int) < 3 := by omega
    go_wp2_with (go_at_call 38; (with_reducible refine IX.out.mono ?_); rintro e wd ⟨rfl, rfl⟩)
    have hbl3 : Below w.heap.size w W3 := R1.out.fr.trans (PW.out.bl.mono R1.out.fr.size)
    have hgw : w.heap.size ≤ g' := Nat.le_trans R1.out.fr.size PW.out.ge.2
    have hbw : w.heap.size ≤ b + 1 := by have := HBE.out; omega
    have hbl5 : Below w.heap.size w (((W3.setCell ⟨g', i', none⟩ (.slice A' k' c')).setCell ⟨b + 1, 0, none⟩ (.slice (some ⟨hb, 0, none⟩) 3 3)).setCell ⟨b + 1, 1, none⟩ (.slice (some ⟨g', 0, none⟩) 3 c7)) :=
      ((hbl3.setCell (p := ⟨g', i', none⟩) hgw _).setCell (p := ⟨b + 1, 0, none⟩) hbw _).setCell (p := ⟨b + 1, 1, none⟩) hbw _
    have hst := (World.ownsRow.stored PW.out.own i' (.slice A' k' c')).1
    have hlt3 := (World.ownsRow.lt PW.out.own g' rfl).2
    have hcap3 : 3 ≤ c7 := by
      rcases PW.out.own.2 with ⟨h1, h2⟩ | ⟨_, _, _, h1, _, _, h4, _⟩
      · omega
      · simp only [Value.slice.injEq, true_and] at h1
        omega
    have cells : ∀ j, j < 3 → (((W3.setCell ⟨g', i', none⟩ (.slice A' k' c')).setCell ⟨b + 1, 0, none⟩ (.slice (some ⟨hb, 0, none⟩) 3 3)).setCell ⟨b + 1, 1, none⟩ (.slice (some ⟨g', 0, none⟩) 3 c7)).cell? ⟨g', j, none⟩ = some (if j = i' then .slice A' k' c' else .slice (A j) (L (hdN j)).length (c j)) := fun j hj => by
      have e1 : (((W3.setCell ⟨g', i', none⟩ (.slice A' k' c')).setCell ⟨b + 1, 0, none⟩ (.slice (some ⟨hb, 0, none⟩) 3 3)).setCell ⟨b + 1, 1, none⟩ (.slice (some ⟨g', 0, none⟩) 3 c7)).heap[g']? = (W3.setCell ⟨g', i', none⟩ (.slice A' k' c')).heap[g']? := by
        rw [Below.heap_setCell _ _ _ _ (show g' ≠ b + 1 from NE.out), Below.heap_setCell _ _ _ _ (show g' ≠ b + 1 from NE.out)]
      rw [World.cell?_of_block (w := W3.setCell ⟨g', i', none⟩ (.slice A' k' c')) e1, World.ownsRow.cellAt hst j (by omega), List.getElem?_set]
      have hj3 : j = 0 ∨ j = 1 ∨ j = 2 := by omega
      by_cases e : j = i'
      · subst e
        rw [if_pos rfl, if_pos rfl, if_pos (by simp; omega)]
      · rw [if_neg (fun h => e h.symm), if_neg e]
        rcases hj3 with rfl | rfl | rfl <;> rfl
    have hbR := (((BR3.out.only (Only.setCell W3 ⟨g', i', none⟩ (.slice A' k' c')) (show b + 1 ≠ g' from fun e => NE.out e.symm)).put 0 (.slice (some ⟨hb, 0, none⟩) 3 3)).put 1 (.slice (some ⟨g', 0, none⟩) 3 c7))
    have hsz : W3.heap.size ≤ (((W3.setCell ⟨g', i', none⟩ (.slice A' k' c')).setCell ⟨b + 1, 0, none⟩ (.slice (some ⟨hb, 0, none⟩) 3 3)).setCell ⟨b + 1, 1, none⟩ (.slice (some ⟨g', 0, none⟩) 3 c7)).heap.size := by simp [World.setCell]
    generalize (((W3.setCell ⟨g', i', none⟩ (.slice A' k' c')).setCell ⟨b + 1, 0, none⟩ (.slice (some ⟨hb, 0, none⟩) 3 3)).setCell ⟨b + 1, 1, none⟩ (.slice (some ⟨g', 0, none⟩) 3 c7)) = W5 at hbl5 cells hsz hbR ⊢
    have X5 := XW.out.below hbl5
    have hdj : ∀ j, j < 3 → j ≠ i' → hdN j ≠ hdN i' := fun j hj hne => by unfold hdN; omega
    refine bodyPost_ret (resL1 rfl rfl hbR) rfl ?_
    refine ⟨g', c7, rfl, ⟨X5.hB, X5.hl, X5.hc, ⟨by have := hB.1; omega, by have := hB.2; omega⟩, Nat.lt_of_lt_of_le hlt3 hsz, fun j hj => ?_, fun j hj => ?_, fun j hj => ?_, hcap3⟩, hbl5, hgw⟩
    · rw [cells j hj]
      unfold upN upL
      by_cases e : j = i'
      · rw [if_pos e, if_pos e, if_pos e, e, if_pos rfl, HS.out.2.1]
      · rw [if_neg e, if_neg e, if_neg e, if_neg (hdj j hj e)]
    · unfold upN upL
      by_cases e : j = i'
      · rw [if_pos e, e, if_pos rfl]
        exact HS.out.1.keep (Kx.below hbl5)
      · rw [if_neg e, if_neg (hdj j hj e)]
        exact (XW.out.sx j hj).keep (Kx.below hbl5)
    · unfold upN upL
      by_cases e : j = i'
      · rw [if_pos e, if_pos e, e, if_pos rfl, HS.out.2.1]
        exact HS.out.2.2
      · rw [if_neg e, if_neg e, if_neg (hdj j hj e)]
        exact XW.out.cap j hj
end
end Go.Proofs.YthklbkgehfgdgaaDoor
