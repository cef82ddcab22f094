/- The contract of the slab's pageFor. Conditions: the table of widths lies in its block; the slab's blocks are known. -/
import Derived.Test.YthblpnnbkjhmhaaDoorSPop
namespace Go.Proofs.YthblpnnbkjhmhaaDoor
open Go.RowKit Go.Shelf
open Pool (num cnt upd Pl low trV trE trT setR)
attribute [local go_sem] Oper.semAt_some

/-- A page of a class that has a free block. -/
def hasR (q : Rp) (c i : Nat) : Prop := (q i).1 = c ∧ (q i).2.2 ≠ 0
/-- What pushing blocks makes of the bytes, and of a page's next. -/
def pushS (f : Nat → Int) (x : Nat) (l : List Nat) : (Nat → Int) × Nat := l.foldl (fun s a => (st s.1 a s.2 8, a)) (f, x)
theorem pushS_snoc (f : Nat → Int) (x : Nat) (l : List Nat) (a : Nat) : pushS f x (l ++ [a]) = (st (pushS f x l).1 a (pushS f x l).2 8, a) := by simp [pushS]
theorem pushS_nil (f : Nat → Int) (x : Nat) : pushS f x [] = (f, x) := rfl

def nums {i c : Nat} (pre : List (Bk i c)) : List Nat := pre.map Subtype.val
theorem nums_snoc {i c : Nat} (pre : List (Bk i c)) (x : Bk i c) : nums (pre ++ [x]) = nums pre ++ [x.1] := by simp [nums]
theorem up_map {c : Nat} (hC : IsC c) (i : Nat) : nums (up hC i (512 / c)) = (blks i c).reverse := by
  have e : nums (up hC i (512 / c)) = (List.range (512 / c)).map fun k => blk i c (512 / c - 1 - k) := by
    unfold nums up
    rw [List.map_map]
    rfl
  rw [e]
  apply List.ext_getElem
  · simp [blks]
  · intro k h1 h2
    simp [blks, List.getElem_reverse]
theorem al2 {w W : World} {a1 a2 : Array Value} {t1 t2 : TypeId} (h : W = (w.alloc (.cells a1 t1)).alloc (.cells a2 t2)) :
    Blk W w.heap.size t1 a1 ∧ Blk W (w.heap.size + 1) t2 a2 ∧ W.heap.size = w.heap.size + 2 ∧ Below w.heap.size w W := by
  subst h
  have n1 := Blk.new w t1 a1
  have n2 := Blk.new (w.alloc (.cells a1 t1)) t2 a2
  simp only [World.size_alloc] at n1 n2
  exact ⟨n1.alloc _, n2, by simp [World.size_alloc], ((Below.refl _ w).alloc (Nat.le_refl _) _).alloc (by simp) _⟩
theorem Fr.grown {a b c : Nat} {w W W' : World} {row : Option Nat} (h : Fr a b c w W) (hg : W.grownBy W' row) (hr : ∀ r, row = some r → w.heap.size ≤ r) : Fr a b c w W' :=
  ⟨hg.os.trans h.os, hg.tape.trans h.tape, hg.output.trans h.output, Nat.le_trans h.size hg.size, fun k hk ha hb hc => (hg.block k (Nat.lt_of_lt_of_le hk h.size) (fun e => by have := hr k e.symm; omega)).trans (h.block k hk ha hb hc)⟩
theorem Rw.grown {W W' : World} {L : Pt} {n : Nat} {q : Rp} {f : Nat → Int} {t : Nat → Bool} {row : Option Nat} (h : Rw W L n q f t) (hg : W.grownBy W' row) (hr : ∀ r, row = some r → ∃ o : Obj, W.heap[r]? = some o ∧ o.isCells = false) : Rw W' L n q f t :=
  ⟨h.head.grown hg hr, ⟨h.ar.head.grown hg hr, h.ar.body.grown hg hr, h.ar.small, h.ar.byte⟩, ⟨h.pl.blk.grown hg hr, h.pl.small, h.pl.off⟩, h.pg.grown hg hr, h.pos⟩
section
variable {w : World} {L : Pt} {n : Nat} {q : Rp} {f : Nat → Int} {t : Nat → Bool}
set_option maxRecDepth 100000 in
set_option maxHeartbeats 2000000 in
theorem pageFor_any (c : Nat) (hT : Tab w) (hTl : 1 < w.heap.size ∧ 1 < L.ga ∧ 1 < L.pp ∧ 1 < L.gp) (h : Rw w L n q f t) (hC : IsC c) (hsm : ∀ i, i < n → (q i).1 ≤ 256 ∧ (q i).2.2 ≤ 65536) :
    Calls Tryd.prog 32 #[.pointer (some ⟨L.p, 0, none⟩), .int .i64 c] w fun e w' =>
      (∃ k : Nat, k < n ∧ hasR q c k ∧ (∀ j, j < k → ¬ hasR q c j) ∧ e = .returned (.tuple #[.int .i64 k, .bool true]) ∧ Below w.heap.size w w') ∨
      ((∀ j, j < n → ¬ hasR q c j) ∧
        ((∃ k : Nat, low n t 1 = some k ∧ e = .returned (.tuple #[.int .i64 k, .bool true]) ∧ Rw w' L n (rput q k (c, (q k).2.1, (pushS f (q k).2.2 (blks k c).reverse).2)) (pushS f (q k).2.2 (blks k c).reverse).1 (setR t k 1 true) ∧ Fr L.ga L.pp L.gp w w') ∨
        (low n t 1 = none ∧ e = .returned (.tuple #[.int .i64 0, .bool false]) ∧ Rw w' L n q f t ∧ Fr L.ga L.pp L.gp w w'))) := by
  have hn := h.small
  have hb := hC.bd
  obtain ⟨w1, hw1⟩ : ∃ w1, w1 = w.alloc (.cells #[.pointer (some ⟨L.p, 0, none⟩)] 24) := ⟨_, rfl⟩
  have b1 : Blk w1 w.heap.size 24 #[.pointer (some ⟨L.p, 0, none⟩)] := by rw [hw1]; exact Blk.new _ _ _
  have r1 : Rw w1 L n q f t := by rw [hw1]; exact h.alloc _
  have s1 : w1.heap.size = w.heap.size + 1 := by rw [hw1]; exact World.size_alloc _ _
  have l1 : Below w.heap.size w w1 := by rw [hw1]; exact (Below.refl _ w).alloc (Nat.le_refl _) _
  have cb : w1.cell? ⟨w.heap.size, 0, none⟩ = some (.pointer (some ⟨L.p, 0, none⟩)) := b1.cell 0
  have HT := Lib.hid hT
  have H := Lib.hid h
  have HC := Lib.hid hC
  have R1 := Lib.hid r1
  have B1 := Lib.hid b1
  have L1 := Lib.hid l1
  have HS := Lib.hid hsm
  have HTl := Lib.hid hTl
  clear hT h hC r1 b1 l1 hsm hTl
  refine (callsIn_wide (n := 3)).1 ?_
  refine callsIn_of_wp_marks Tryd.func32 rfl trivial ?_ rfl
  simp only [Tryd.ntmps32, List.size_toArray, List.length_cons, List.length_nil, Nat.reduceAdd, Nat.reduceSub, Array.replicate_succ, Array.replicate_zero, List.push_toArray, List.append_toArray, List.nil_append, List.cons_append]
  gi_wp2_with (rw [← hw1]; refine ⟨trivial, ?_⟩; gi_at_call 39; refine (callsIn_wide.2 (all_at R1.out)).mono ?_; rintro e w' ⟨rfl, rfl⟩)
  gi_loopw [14] (fun v wr => ∃ k : Nat, k ≤ n ∧ v = .int .i64 k ∧ Hid (∀ j, j < k → ¬ hasR q c j) ∧ Hid (Below w1.heap.size w1 wr)) (fun v _ => n - (intOf v).toNat)
  case atStart => exact ⟨0, Nat.zero_le _, rfl, Lib.hid (by omega), Lib.hid (by rw [← hw1]; exact Below.refl _ _)⟩
  case round =>
    obtain ⟨k, hk, rfl, hN, hBl⟩ := hrel
    have R := Lib.hid (R1.out.below hBl.out (Nat.le_refl _))
    have Bx := Lib.hid (B1.out.below hBl.out B1.out.lt)
    by_cases hlt : k < n
    · have c0 := R.out.p0 k hlt
      have c1 := R.out.p1 k hlt
      have c2 := R.out.p2 k hlt
      have hs := HS.out k hlt
      generalize hq : q k = v at c0 c1 c2 hs
      obtain ⟨c', tk', nx⟩ := v
      dsimp only at c0 c1 c2 hs
      by_cases hh : c' = c ∧ nx ≠ 0
      · obtain ⟨rfl, hnx⟩ := hh
        have hnx' : ¬ ((nx : Nat) : Int) = 0 := by omega
        gi_wp2
        exact ⟨_, results_tmp2 rfl _ _ _, .inl ⟨k, hlt, ⟨by rw [hq], by rw [hq]; exact hnx⟩, hN.out, rfl, (L1.out.trans (hBl.out.mono (by omega))).alloc (by have := hBl.out.size; omega) _⟩⟩
      · by_cases hc : c' = c
        · have hnx : nx = 0 := by
            rcases Nat.eq_zero_or_pos nx with e | e
            · exact e
            · exact absurd ⟨hc, by omega⟩ hh
          subst hc hnx
          clear hh
          gi_wp2
          go_roundw
          case rel =>
            refine ⟨k + 1, hlt, by go_num, Lib.hid fun j hj => ?_, Lib.hid (hBl.out.alloc hBl.out.size _)⟩
            rcases Nat.lt_or_ge j k with h | h
            · exact hN.out j h
            · obtain rfl : j = k := by omega
              rintro ⟨_, h2⟩
              rw [hq] at h2
              exact h2 rfl
          case measure => simp [intOf]; omega
        · have hc' : ¬ ((c' : Nat) : Int) = c := by omega
          have HCN := Lib.hid hc
          clear hh hc
          gi_wp2
          go_roundw
          case rel =>
            refine ⟨k + 1, hlt, by go_num, Lib.hid fun j hj => ?_, Lib.hid (hBl.out.alloc hBl.out.size _)⟩
            rcases Nat.lt_or_ge j k with h | h
            · exact hN.out j h
            · obtain rfl : j = k := by omega
              rintro ⟨h2, _⟩
              rw [hq] at h2
              exact HCN.out h2
          case measure => simp [intOf]; omega
    · obtain rfl : n = k := by omega
      have cb1 : wr.cell? ⟨w.heap.size, 0, none⟩ = some (.pointer (some ⟨L.p, 0, none⟩)) := Bx.out.cell 0
      have h1 := R.out.h1
      clear cb hlt
      gi_wp2_with (refine ⟨trivial, ?_⟩; gi_at_call 11; refine (callsIn_wide.2 (arena_at R.out)).mono ?_; rintro e w' ⟨rfl, rfl⟩)
      refine ⟨trivial, (callsIn_wide.2 (Pool.take_any L.pp n t R.out.pl)).mono ?_⟩
      cases hlow : low n t 1 with
      | none =>
        have e1 : trV n t 1 = 0 := by simp [trV, hlow]
        have e2 : trE n t 1 = 5 := by simp [trE, hlow]
        have e3 : trT n t 1 = t := by simp [trT, hlow]
        rw [e1, e2, e3]
        rintro e w2 ⟨rfl, hP, hO⟩
        have R2 := Lib.hid (R.out.ofPl hO hP)
        have F2 := Lib.hid ((Fr.of_below (a := L.ga) (b := L.pp) (c := L.gp) (L1.out.trans (hBl.out.mono (by omega))) (Nat.le_refl _)).trans (Fr.of_only hO (.inr (.inl rfl))))
        clear hP hO e1 e2 e3 cb1 h1
        gi_wp2
        exact ⟨_, results_tmp2 rfl _ _ _, .inr ⟨hN.out, .inr ⟨hlow, rfl, R2.out.alloc _, F2.out.trans (Fr.alloc _ _ _ _ _)⟩⟩⟩
      | some i =>
        have e1 : trV n t 1 = i := by simp [trV, hlow]
        have e2 : trE n t 1 = 0 := by simp [trE, hlow]
        have e3 : trT n t 1 = setR t i 1 true := by simp [trT, hlow]
        rw [e1, e2, e3]
        have hin : i < n := by have := (Pool.low_spec hlow).1.1; omega
        rintro e w2 ⟨rfl, hP, hO⟩
        have R2 := Lib.hid (R.out.ofPl hO hP)
        have F2 := Lib.hid ((Fr.of_below (a := L.ga) (b := L.pp) (c := L.gp) (L1.out.trans (hBl.out.mono (by omega))) (Nat.le_refl _)).trans (Fr.of_only hO (.inr (.inl rfl))))
        have hpw : w.heap.size ≠ L.pp := by have := H.out.lts; omega
        have B2 := Lib.hid (Bx.out.only hO hpw)
        clear hP hO e1 e2 e3 cb1 h1
        gi_wp2
        obtain ⟨w3, hw3⟩ : ∃ w3, w3 = w2.alloc (.cells #[.int .i64 i] 3) := ⟨_, rfl⟩
        rw [← hw3]
        have R3 := Lib.hid (show Rw w3 L n q f (setR t i 1 true) by rw [hw3]; exact R2.out.alloc _)
        have B3 := Lib.hid (show Blk w3 w.heap.size 24 #[.pointer (some ⟨L.p, 0, none⟩)] by rw [hw3]; exact B2.out.alloc _)
        have N3 := Lib.hid (show Blk w3 w2.heap.size 3 #[.int .i64 i] by rw [hw3]; exact Blk.new _ _ _)
        have F3 := Lib.hid (show Fr L.ga L.pp L.gp w w3 by rw [hw3]; exact F2.out.trans (Fr.alloc _ _ _ _ _))
        have cb3 : w3.cell? ⟨w.heap.size, 0, none⟩ = some (.pointer (some ⟨L.p, 0, none⟩)) := B3.out.cell 0
        have cn3 : w3.cell? ⟨w2.heap.size, 0, none⟩ = some (.int .i64 i) := N3.out.cell 0
        have h2 := R3.out.h2
        have p0 := R3.out.p0 i hin
        have fz := R3.out.fz (i * 3)
        clear hw3
        gi_region
        obtain ⟨w4, hw4⟩ : ∃ w4, w4 = (w3.setCell ⟨L.gp, i * 3, none⟩ (.int .i64 c)).drew := ⟨_, rfl⟩
        rw [← hw4]
        have hpgp : w.heap.size ≠ L.gp := by have := H.out.lts; omega
        have hw2 : w.heap.size < w2.heap.size := by have := B2.out.lt; omega
        have hngp : w2.heap.size ≠ L.gp := by have := H.out.lts; omega
        have R4 := Lib.hid (show Rw w4 L n (rput q i (c, (q i).2)) f (setR t i 1 true) by rw [hw4]; exact (R3.out.set0 i c).drew1)
        have B4 := Lib.hid (show Blk w4 w.heap.size 24 #[.pointer (some ⟨L.p, 0, none⟩)] by rw [hw4]; exact blk_drew (B3.out.only (Only.setCellAt _ _ _ _) hpgp))
        have N4 := Lib.hid (show Blk w4 w2.heap.size 3 #[.int .i64 i] by rw [hw4]; exact blk_drew (N3.out.only (Only.setCellAt _ _ _ _) hngp))
        have F4 := Lib.hid (show Fr L.ga L.pp L.gp w w4 by rw [hw4]; exact (F3.out.trans (Fr.of_only (Only.setCellAt _ _ _ _) (.inr (.inr rfl)))).trans (Fr.drew1 _ _ _ _))
        have cn4 : w4.cell? ⟨w2.heap.size, 0, none⟩ = some (.int .i64 i) := N4.out.cell 0
        clear hw4 cb3 cn3 h2 p0 fz
        gi_wp2_with (refine ⟨trivial, ?_⟩; gi_at_call 42; refine (callsIn_wide.2 (blocks_any i c)).mono ?_; rintro e w' ⟨rfl, rfl⟩)
        obtain ⟨W0, hW0⟩ : ∃ W0, W0 = (w4.alloc (.cells #[.int .i64 i] 3)).alloc (.cells #[.int .i64 c] 3) := ⟨_, rfl⟩
        rw [← hW0]
        obtain ⟨bi, bc, hsz, hBl4⟩ := al2 hW0
        have R5 : Rw W0 L n (rput q i (c, (q i).2)) f (setR t i 1 true) := R4.out.below hBl4 (Nat.le_refl _)
        have B5 := B4.out.below hBl4 B4.out.lt
        have N5 := N4.out.below hBl4 N4.out.lt
        have F5 := Lib.hid (F4.out.trans (Fr.of_below hBl4 (Nat.le_refl _)))
        have hs4 : w2.heap.size < w4.heap.size := N4.out.lt
        have hls := H.out.lts
        clear hW0
        refine wpIn_rangeFunc_ownG rfl (by omega) (gf := 50) (lb := #[.pointer (some ⟨w4.heap.size, 0, none⟩), .pointer (some ⟨w4.heap.size + 1, 0, none⟩)]) rfl trivial (enters_of Tryd.func50 (by kernel_rfl) rfl)
          (blocks_stops 2 i c _ _ (by omega) HC.out (by omega) bi bc) Kp.trans (Kp.put (by omega) (by omega)) (Below.refl _ _) (fun _ => rfl)
          (fun (pre : List (Bk i c)) W => Rw W L n (rput q i (c, (q i).2.1, (pushS f (q i).2.2 (nums pre)).2)) (pushS f (q i).2.2 (nums pre)).1 (setR t i 1 true) ∧ (pushS f (q i).2.2 (nums pre)).2 ≤ 65536 ∧ Blk W w.heap.size 24 #[.pointer (some ⟨L.p, 0, none⟩)] ∧ Blk W w2.heap.size 3 #[.int .i64 i] ∧ Fr L.ga L.pp L.gp W0 W)
          (fun _ _ _ => False)
          (fun pre W W' row hI hg hr => ⟨hI.1.grown hg fun r e => (hr r e).2, hI.2.1, hI.2.2.1.grown hg fun r e => (hr r e).2, hI.2.2.2.1.grown hg fun r e => (hr r e).2, hI.2.2.2.2.grown hg fun r e => (hr r e).1⟩)
          (fun _ _ _ _ _ hs _ _ => hs)
          ⟨R5, (HS.out i hin).2, B5, N5, Fr.refl _ _ _ _⟩
          (fun x => { tmps := #[.pointer (some ⟨L.p, 0, none⟩), .int .i64 c, .pointer (some ⟨w.heap.size, 0, none⟩), undef, u4, u5, u6, u7, .pointer (some ⟨w2.heap.size, 0, none⟩), .int .i64 0, .int .i64 (x.1 : Nat), .pointer (some ⟨L.p, 0, none⟩), .slice (some ⟨L.gp, 0, none⟩) n n, .int .i64 n, .int .i64 n, .bool false, u16, u17, u18, u19, u20, u21, u22, u23, u24, u25, u26, u27, u28, u29, .pointer (some ⟨L.p, 0, none⟩), .pointer (some ⟨L.pa, 0, none⟩), .bool false, .tuple #[.int .i64 i, .int .i64 0], .pointer (some ⟨L.p, 0, none⟩), .pointer (some ⟨L.p, 0, none⟩), .pointer (some ⟨L.p, 1, none⟩), .pointer (some ⟨L.pp, 0, none⟩), .tuple #[.int .i64 i, .int .i64 0], .int .i64 i, .int .i64 0, .int .i64 0, .bool false, .pointer (some ⟨L.p, 0, none⟩), .pointer (some ⟨L.p, 0, none⟩), .pointer (some ⟨L.p, 2, none⟩), .slice (some ⟨L.gp, 0, none⟩) n n, .int .i64 i, .int .i64 c, .pointer (some ⟨L.gp, i * 3, none⟩), .pointer (some ⟨L.gp, i * 3, none⟩), .int .i64 i, .int .i64 c, .func (.func 50) #[] #[.pointer (some ⟨w4.heap.size, 0, none⟩), .pointer (some ⟨w4.heap.size + 1, 0, none⟩)], .int .i64 (x.1 : Nat), undef, undef, undef, undef, undef], defers := [] }) ?assign ?body ?done ?stop
        case assign =>
          intro l x W K hK
          gi_wp2
          exact hK
        case body =>
          rintro l pre ⟨a, ha⟩ W ⟨r, hx, kb, kn, hF⟩ _
          have hle := mem_le HC.out ha
          have hd : 1 ≤ 3 - 1 - 1 := by omega
          have q0 : W.cell? ⟨w.heap.size, 0, none⟩ = some (.pointer (some ⟨L.p, 0, none⟩)) := kb.cell 0
          have q1 : W.cell? ⟨w2.heap.size, 0, none⟩ = some (.int .i64 i) := kn.cell 0
          have TW := Lib.hid (HT.out.fr (F5.out.trans hF) HTl.out.1 HTl.out.2.1 HTl.out.2.2.1 HTl.out.2.2.2)
          have RW := Lib.hid r
          have KB := Lib.hid kb
          have KN := Lib.hid kn
          have FW := Lib.hid hF
          clear r kb kn hF R5 B5 N5 bi bc
          dsimp only
          generalize hps : pushS f (q i).2.2 (nums pre) = ps at RW hx
          gi_wp2_with (refine ⟨trivial, ?_⟩; gi_at_call 38; refine (CallsIn.inRound l (callsIn_wide.2 (push_any i a ps.2 TW.out RW.out hin (by rw [rput_same]) hx (by omega)))).mono ?_; rintro e w' ⟨⟨v, rfl⟩, hR', hF'⟩)
          have hsz' := FW.out.size
          have hls' : L.ga < w.heap.size ∧ L.pp < w.heap.size ∧ L.gp < w.heap.size := ⟨hls.2.2.1, hls.2.2.2.1, hls.2.2.2.2⟩
          refine ⟨(hF'.keeps RW.out.ar.body RW.out.pl.blk RW.out.pg).from _, ⟨hF'.block _ (by omega) (by omega) (by omega) (by omega), hF'.block _ (by omega) (by omega) (by omega) (by omega)⟩, ?_, ?_, ?_, ?_, ?_⟩
          · rw [rput_same, rput_rput] at hR'
            rw [nums_snoc, pushS_snoc, hps]
            exact hR'
          · rw [nums_snoc, pushS_snoc]
            dsimp only
            omega
          · exact KB.out.fr hF' (by omega) (by omega) (by omega)
          · exact KN.out.fr hF' (by omega) (by omega) (by omega)
          · exact FW.out.trans hF'
        case done =>
          rintro D ys W hD rfl ⟨r, hx, kb, kn, hF⟩ hK
          have q1 : W.cell? ⟨w2.heap.size, 0, none⟩ = some (.int .i64 i) := kn.cell 0
          rw [up_map] at r
          have RW := Lib.hid r
          have FW := Lib.hid hF
          clear r hx kb kn hF R5 B5 N5 bi bc
          gi_wp2
          refine ⟨by simp, .inl ⟨_, _, rfl, run_takeDeferred hK, ?_⟩⟩
          refine ⟨_, results_tmp2 rfl _ _ _, .inr ⟨hN.out, .inl ⟨i, hlow, rfl, ?_, ?_⟩⟩⟩
          · exact RW.out.grown (grownBy_putObj' _ D _) (fun r e => by cases e; exact ⟨_, hK, rfl⟩)
          · exact (F5.out.trans FW.out).grown (grownBy_putObj' _ D _) (fun r e => by cases e; have := F5.out.size; omega)
        case stop =>
          rintro D cd pre W _ _ h _
          exact h.elim
end
end Go.Proofs.YthblpnnbkjhmhaaDoor
