/- The document's answer for the slab: Free, walked. Condition: its blocks are known. -/
import Derived.Test.YthblpnnbkjhmhaaDoorSApp
namespace Go.Proofs.YthblpnnbkjhmhaaDoor
open Go.RowKit

section
variable {w w' : World} {B : Bd} {g cp n : Nat} {s : St} {T : Nat → List Nat} {Q : Nat → Qg}
theorem filt_succ (l : List Nat) (x k y : Nat) (h : l[k]? = some y) : (l.take (k + 1)).filter (fun y => !decide (y = x)) = (l.take k).filter (fun y => !decide (y = x)) ++ if y = x then [] else [y] := by
  rw [List.take_add_one, h, List.filter_append]
  by_cases e : y = x <;> simp [e]
set_option maxRecDepth 100000 in
set_option maxHeartbeats 2000000 in
theorem rfree_any (at_ : Int) (h : Rf w B g cp n s T Q) (hT : Tl s T) (hI : Inv n s) (hB : B.b ≤ w.heap.size ∧ B.t < w.heap.size) :
    Calls Tryd.prog 20 #[.slice (some ⟨g, 0, none⟩) n cp, .int .i64 at_] w fun e w' =>
      ∃ g' cp' T' Q', e = .returned (.tuple #[.slice (some ⟨g', 0, none⟩) n cp', .int .i64 (frE n s at_)]) ∧ Rf w' B g' cp' n (frS n s at_) T' Q' ∧ Tl (frS n s at_) T' ∧ Below w.heap.size w w' := by
  have hn := h.small
  have H := Lib.hid h
  have HT := Lib.hid hT
  have HI := Lib.hid hI
  clear h hT hI
  cases hok : isB n s at_ with
  | false =>
    have e1 : frE n s at_ = 1 := by unfold frE; rw [hok]; rfl
    have e2 : frS n s at_ = s := by unfold frS; rw [hok]; rfl
    have HOK := Lib.hid hok
    rw [e1, e2]
    clear e1 e2 hok
    go_enter Tryd.func20, Tryd.ntmps20
    go_wp2_with fail
    refine (rblock_any at_ H.out HT.out HI.out.toInv0).mono ?_
    rw [HOK.out]
    rintro e w1 ⟨rfl, rfl⟩
    go_wp2
    go_ret2
    exact ⟨g, cp, T, Q, rfl, H.out, HT.out, Below.refl _ _⟩
  | true =>
    obtain ⟨x, c, l, rfl, hx, hs, hc0, hm, hal⟩ := isB_spec hok
    have htk := (isB_iff HI.out.toInv0 x).1 hok
    have hpl := page_lt HI.out.toInv0 htk.1
    have hT2 := Lib.hid (give_T HT.out HI.out htk)
    have hnil := Lib.hid (left_nil HT.out hs)
    have e1 : frE n s x = 0 := by unfold frE; rw [hok]; rfl
    have e2 : frS n s x = givG s (x / 512) x := by unfold frS; rw [hok, Int.toNat_natCast]; rfl
    have e3 : givG s (x / 512) x = if allF (x / 512) c (x :: l) then put s (x / 512) (0, []) else put s (x / 512) (c, x :: l) := by unfold givG; rw [hs]
    obtain ⟨S, hS⟩ : ∃ S, S = frS n s x := ⟨_, rfl⟩
    have HS3 := Lib.hid (show S = if allF (x / 512) c (x :: l) then put s (x / 512) (0, []) else put s (x / 512) (c, x :: l) by rw [hS, e2, e3])
    have hgT : giveT T x = updT T (x / 512) ((T (x / 512)).filter fun y => !decide (y = x)) := rfl
    rw [e1, ← hS]
    rw [← hS, hgT] at hT2
    have hq : (x : Int).tdiv 512 = ((x / 512 : Nat) : Int) := by rw [Int.tdiv_eq_ediv_of_nonneg (by omega)]; omega
    have hi : x / 512 < n := hpl.2
    obtain ⟨c0, c1, c2⟩ := H.out.cells (x / 512) hi
    have hokp := H.out.ok (x / 512) hi
    unfold rc0 at c0
    unfold rc1 at c1
    unfold rc2 at c2
    rw [hs] at c0 c1 hokp
    dsimp only at c0 c1
    have hl32 : (T (x / 512)).length ≤ 32 := by rw [HT.out.len]; exact Pool.cnt_le _ _
    have hC : IsC c := by have := HI.out.cls (x / 512); rw [hs] at this; rcases this with h | h; exact absurd h hc0; exact h
    have hll : l.length ≤ 32 := by
      have h1 := (List.nodup_iff_pairwise_ne.1 (by have := HI.out.once (x / 512); rw [hs] at this; exact this))
      have hsub : ∀ a ∈ l, a ∈ blks (x / 512) c := fun a ha => by have := HI.out.free (x / 512) a (by rw [hs]; exact ha); rwa [hs] at this
      have hnd : l.Nodup := by have := HI.out.once (x / 512); rw [hs] at this; exact this
      have := hnd.length_le_of_subset hsub
      have h3 : (blks (x / 512) c).length = 512 / c := by simp [blks]
      have := hC.many
      omega
    have HOK := Lib.hid hok
    have HPK := Lib.hid hokp
    clear hok hS e1 e2 e3 hgT hokp htk hpl hs hm hal
    generalize x / 512 = i at *
    generalize hTi : T i = Ti at *
    generalize Q i = q at *
    obtain ⟨w1, hw1⟩ : ∃ w1, w1 = w.alloc (.cells #[.int .i64 (c : Nat), .slice q.a1 l.length q.k1, .slice q.a2 Ti.length q.k2] 72) := ⟨_, rfl⟩
    have b1 : Blk w1 w.heap.size 72 #[.int .i64 (c : Nat), .slice q.a1 l.length q.k1, .slice q.a2 Ti.length q.k2] := by rw [hw1]; exact Blk.new _ _ _
    have s1 : w1.heap.size = w.heap.size + 1 := by rw [hw1]; exact World.size_alloc _ _
    have l1 : Below w.heap.size w w1 := by rw [hw1]; exact (Below.refl _ w).alloc (Nat.le_refl _) _
    obtain ⟨bs, hbs⟩ : ∃ bs, bs = w1.heap.size := ⟨_, rfl⟩
    have hbs1 : w.heap.size < bs := by omega
    have hbs2 : bs ≤ w1.heap.size := by omega
    have HW1 := Lib.hid hw1
    have B1 := Lib.hid b1
    have L1 := Lib.hid l1
    clear hw1 b1 l1 s1 hbs
    go_enter Tryd.func20, Tryd.ntmps20
    go_wp2_with fail
    refine (rblock_any x H.out HT.out HI.out.toInv0).mono ?_
    rw [HOK.out]
    rintro e w0 ⟨rfl, rfl⟩
    generalize bkV n s (x : Int) = bv
    go_wp2_with fail
    rw [← HW1.out]
    go_loopw [9, 10] (fun v1 v wr => ∃ (k : Nat) (A : Option Addr) (cp1 : Nat) (ys : List Nat), k ≤ Ti.length ∧ v = .int .i64 k ∧ v1 = .slice A ys.length cp1 ∧ ys.length ≤ k ∧ bs ≤ wr.heap.size ∧ Hid (ys = (Ti.take k).filter fun y => !decide (y = x)) ∧ Hid (wr.ownsRow bs 3 1 (.slice A ys.length cp1) ys.length (ints ys)) ∧ Hid (Below bs w1 wr)) (fun _ v _ => Ti.length - (intOf v).toNat)
    case atStart => exact ⟨0, none, 0, [], Nat.zero_le _, rfl, rfl, Nat.zero_le _, hbs2, Lib.hid rfl, Lib.hid (World.ownsRow_nil _ _ _ _), Lib.hid (Below.refl _ _)⟩
    case round =>
      obtain ⟨k, A, cp1, ys, hk, rfl, rfl, hyk, hwr, hY, hR, hBl⟩ := hrel
      have b2 := B1.out.below hBl.out (by omega)
      have k0 : wr.cell? ⟨w.heap.size, 0, none⟩ = some (.int .i64 (c : Nat)) := b2.cell 0
      have k1 : wr.cell? ⟨w.heap.size, 1, none⟩ = some (.slice q.a1 l.length q.k1) := b2.cell 1
      have k2 : wr.cell? ⟨w.heap.size, 2, none⟩ = some (.slice q.a2 Ti.length q.k2) := b2.cell 2
      have z1 := b2.frozen 1
      have z2 := b2.frozen 2
      have Bl2 := Lib.hid (L1.out.trans (hBl.out.mono (by omega)))
      have BW := Lib.hid b2
      clear b2
      by_cases hkl : k < Ti.length
      · obtain ⟨y, hy⟩ : ∃ y, Ti[k]? = some y := ⟨_, List.getElem?_eq_getElem hkl⟩
        obtain ⟨b, o, eA, hbB, hbl, cx⟩ := (HPK.out.keep (Kb.below (B := B) Bl2.out)).taken k y hy
        have hfs := Lib.hid (filt_succ Ti x k y hy)
        rw [eA] at k2
        have EA := Lib.hid eA
        clear hy k0 k1 c0 c1 c2 eA
        by_cases hyx : y = x
        · have hne : (((y : Nat) : Int) != (x : Nat)) = false := by rw [hyx]; simp
          have HYX := Lib.hid hyx
          clear hyx
          go_wp2
          go_roundw
          case rel => exact ⟨k + 1, A, cp1, ys, hkl, by go_num, rfl, by omega, hwr, Lib.hid (by rw [hfs.out, if_pos HYX.out, List.append_nil]; exact hY.out), hR, hBl⟩
          case measure => simp [intOf]; omega
        · have hne : (((y : Nat) : Int) != (x : Nat)) = true := by rw [bne_iff_ne]; omega
          have HYX := Lib.hid hyx
          have RA := Lib.hid (World.ownsRow.alloc hR.out (.cells #[.int .i64 (y : Nat)] 3))
          have SG1 : Hid (Sg (wr.alloc (.cells #[.int .i64 (y : Nat)] 3)) ⟨0, wr.heap.size + 1⟩ (some ⟨wr.heap.size, 0, none⟩) [y]) := Lib.hid fun j u hu => by
            match j, hu with
            | 0, hu =>
              simp at hu
              subst hu
              exact ⟨wr.heap.size, 0, rfl, ⟨Nat.zero_le _, by simp⟩, by simp, by simp⟩
          clear hyx
          go_wp2_with (at_builtin; refine wpList_app rfl (.tmp 39) (.tmp 45) rfl bs ⟨0, wr.heap.size + 1⟩ ys.length 1 1 _ ys [y] (some ⟨wr.heap.size, 0, none⟩) rfl RA.out rfl SG1.out rfl (fun h => by cases h) (by omega) (by simp; omega) ?_)
          intro v' w5 hown hgrow
          have hb5 := below_of_grown hgrow (B := bs) (by simp; omega) (fun r e => (World.ownsRow.lt RA.out r e).1)
          have Bl5 := Lib.hid ((hBl.out.alloc hwr (.cells #[.int .i64 (y : Nat)] 3)).trans hb5)
          have hs5 : bs ≤ w5.heap.size := Nat.le_trans (by simp; omega) hb5.size
          obtain ⟨A5, c5, hv5⟩ := row_form hown
          subst hv5
          have R5 : Hid (w5.ownsRow bs 3 1 (.slice A5 (ys ++ [y]).length c5) (ys ++ [y]).length (ints (ys ++ [y]))) := Lib.hid (by rw [List.length_append]; exact hown)
          clear hown hgrow hb5
          go_wp2
          go_roundw
          case rel => exact ⟨k + 1, A5, c5, ys ++ [y], hkl, by go_num, by rw [List.length_append]; rfl, by rw [List.length_append]; simp; omega, hs5, Lib.hid (by rw [hfs.out, if_neg HYX.out, hY.out]), R5, Bl5⟩
          case measure => simp [intOf]; omega
      · have hyf : Hid (ys = Ti.filter fun y => !decide (y = x)) := Lib.hid (by rw [hY.out, List.take_of_length_le (by omega)])
        have hRf := Lib.hid (H.out.keep (Kb.below (B := B) Bl2.out))
        have hPk := Lib.hid (HPK.out.keep (Kb.below (B := B) Bl2.out))
        clear c0 c1 c2
        by_cases hy0 : ys.length = 0
        · have hyn : ys = [] := List.eq_nil_of_length_eq_zero hy0
          have hF : allF i c (x :: l) = true := hnil.out.1 (by rw [← hyf.out, hyn])
          have HF := Lib.hid hF
          have HYN := Lib.hid hyn
          clear hF hyn
          go_wp2_with fail
          refine (with_ok hRf.out i hi (0, []) [] ⟨none, 0, none, 0⟩ ⟨Sg.nil _ _ _, Sg.nil _ _ _, Nat.zero_le _, Nat.zero_le _, fun _ => rfl, fun _ => rfl⟩ (by omega)).mono ?_
          rintro e w5 ⟨g', cp', rfl, hR5, hB5⟩
          have HR5 := Lib.hid hR5
          have HB5 := Lib.hid (Bl2.out.trans (hB5.mono (by omega)))
          clear hR5 hB5
          go_wp2
          go_ret2
          have eS : S = put s i (0, []) := by rw [HS3.out, HF.out]; rfl
          have hT3 := hT2.out
          rw [← hyf.out, HYN.out] at hT3
          rw [eS] at hT3 ⊢
          exact ⟨g', cp', _, _, rfl, HR5.out, hT3, HB5.out⟩
        · have hF : allF i c (x :: l) = false := by
            cases hF : allF i c (x :: l) with
            | false => rfl
            | true =>
              have := hnil.out.2 hF
              rw [← hyf.out] at this
              rw [this] at hy0
              exact absurd rfl hy0
          have HF := Lib.hid hF
          have hyi : ((ys.length : Nat) : Int) ≠ 0 := by omega
          have hyb : (((ys.length : Nat) : Int) == 0) = false := by simpa using hyi
          clear hF hy0
          obtain ⟨w5, hw5⟩ : ∃ w5, w5 = (wr.setCell ⟨w.heap.size, 2, none⟩ (.slice A ys.length cp1)).alloc (.cells #[.int .i64 (x : Nat)] 3) := ⟨_, rfl⟩
          have hwl : w.heap.size < wr.heap.size := BW.out.lt
          have hsc : (wr.setCell ⟨w.heap.size, 2, none⟩ (.slice A ys.length cp1)).heap.size = wr.heap.size := (Only.setCellAt _ _ _ _).size
          have hs5 : w5.heap.size = wr.heap.size + 1 := by rw [hw5, World.size_alloc, hsc]
          have b5 : Blk w5 w.heap.size 72 #[.int .i64 (c : Nat), .slice q.a1 l.length q.k1, .slice A ys.length cp1] := by rw [hw5]; exact (BW.out.put 2 _).alloc _
          have kb5 : ∀ k, k < wr.heap.size → k ≠ w.heap.size → w5.heap[k]? = wr.heap[k]? := fun k h1 h2 => by
            rw [hw5]
            exact (Below.heap_alloc _ _ k (by rw [hsc]; exact h1)).trans ((Only.setCellAt _ _ _ _).block k h2)
          have ow5 : w5.ownsRow bs 3 1 (.slice (some ⟨wr.heap.size, 0, none⟩) 1 1) 1 (ints [x]) := by
            refine ⟨rfl, .inr ⟨wr.heap.size, 1, #[.int .i64 (x : Nat)], rfl, hwr, ?_, Nat.le_refl _, by unfold maxLen; omega, rfl, rfl⟩⟩
            have := heap_alloc_new (wr.setCell ⟨w.heap.size, 2, none⟩ (.slice A ys.length cp1)) (.cells #[.int .i64 (x : Nat)] 3)
            rw [hsc] at this
            rw [hw5]
            exact this
          have rl5 := row_keep hR.out (w' := w5) fun k h1 h2 => kb5 k h2 (by omega)
          have bl5 : Below w.heap.size w w5 := ⟨by rw [hw5]; exact Bl2.out.os, by rw [hw5]; exact Bl2.out.tape, by rw [hw5]; exact Bl2.out.output, by omega, fun k hk => (kb5 k (by omega) (by omega)).trans (Bl2.out.block k hk)⟩
          have sg5 : Sg w5 B q.a1 l := (HPK.out.keep (Kb.below (B := B) bl5)).free
          have f1 : w5.cell? ⟨w.heap.size, 1, none⟩ = some (.slice q.a1 l.length q.k1) := b5.cell 1
          have HW5 := Lib.hid hw5
          have B5 := Lib.hid b5
          have OW5 := Lib.hid ow5
          have RL5 := Lib.hid rl5
          have BL5 := Lib.hid bl5
          have SG5 := Lib.hid sg5
          rw [hw5] at f1
          clear hw5 b5 ow5 rl5 bl5 sg5 kb5 hsc
          go_wp2_with (at_builtin; rw [← HW5.out]; refine wpList_app rfl (.tmp 58) (.tmp 60) rfl bs B 1 l.length q.k1 (.slice (some ⟨wr.heap.size, 0, none⟩) 1 1) [x] l q.a1 rfl OW5.out rfl SG5.out rfl HPK.out.z1 (by omega) (by omega) ?_)
          intro v' w6 hown hgrow
          rw [Nat.add_comm 1 l.length] at hown
          have hs6 := hgrow.size
          have b6 : Blk w6 w.heap.size 72 #[.int .i64 (c : Nat), .slice q.a1 l.length q.k1, .slice A ys.length cp1] := (hgrow.block w.heap.size (by omega) (by simp [Value.ownBlock]; omega)).trans B5.out
          have rl6 : w6.ownsRow bs 3 1 (.slice A ys.length cp1) ys.length (ints ys) := by
            refine ⟨RL5.out.1, ?_⟩
            rcases hR.out.2 with h' | ⟨g5, cc5, cur5, h1, h2, h3, h4⟩
            · exact .inl h'
            · have hg5 : g5 < wr.heap.size := (Array.getElem?_eq_some_iff.1 h3).1
              rcases RL5.out.2 with h' | ⟨g6, cc6, cur6, j1, j2, j3, j4⟩
              · exact .inl h'
              · rw [h1] at j1
                simp only [Value.slice.injEq, Option.some.injEq, Addr.mk.injEq, and_true, true_and] at j1
                obtain ⟨rfl, rfl⟩ := j1
                exact .inr ⟨g5, cc5, cur6, h1, h2, (hgrow.block g5 (by omega) (by simp [Value.ownBlock]; omega)).trans j3, j4⟩
          have bl6 : Below w.heap.size w w6 := BL5.out.trans (below_of_grown hgrow (by omega) (fun r e => by cases e; show w.heap.size ≤ wr.heap.size; omega))
          obtain ⟨A6, c6, hv6⟩ := row_form hown
          subst hv6
          have g0 : w6.cell? ⟨w.heap.size, 0, none⟩ = some (.int .i64 (c : Nat)) := b6.cell 0
          have g1 : w6.cell? ⟨w.heap.size, 1, none⟩ = some (.slice q.a1 l.length q.k1) := b6.cell 1
          have g2 : w6.cell? ⟨w.heap.size, 2, none⟩ = some (.slice A ys.length cp1) := b6.cell 2
          have gz := b6.frozen 1
          have OW6 := Lib.hid hown
          have RL6 := Lib.hid rl6
          have BL6 := Lib.hid bl6
          have hw6l : w.heap.size < w6.heap.size := b6.lt
          clear hown hgrow b6 rl6 bl6 f1
          go_wp2_with fail
          obtain ⟨w7, hw7⟩ : ∃ w7, w7 = w6.setCell ⟨w.heap.size, 1, none⟩ (.slice A6 (l.length + 1) c6) := ⟨_, rfl⟩
          rw [← hw7]
          have o7 : Only w.heap.size w6 w7 := by rw [hw7]; exact Only.setCellAt _ _ _ _
          have bl7 : Below w.heap.size w w7 := BL6.out.trans (o7.below (Nat.le_refl _))
          have sgA := sg_row (B := B) (row_keep OW6.out (w' := w7) fun k h1 h2 => o7.block k (by omega)) (fun k hk => by omega)
          have sgB := sg_row (B := B) (row_keep RL6.out (w' := w7) fun k h1 h2 => o7.block k (by omega)) (fun k hk => by omega)
          refine (with_ok (H.out.keep (Kb.below (B := B) bl7)) i hi (c, x :: l) ys ⟨A6, c6, A, cp1⟩ ⟨sgA.1, sgB.1, sgA.2.2.1, sgB.2.2.1, sgA.2.2.2, sgB.2.2.2⟩ (by have := bl7.size; omega)).mono ?_
          rintro e w8 ⟨g', cp', rfl, hR8, hB8⟩
          have HR8 := Lib.hid hR8
          have HB8 := Lib.hid (bl7.trans (hB8.mono bl7.size))
          clear hR8 hB8 hw7 o7 bl7 sgA sgB
          go_wp2
          go_ret2
          have eS : S = put s i (c, x :: l) := by rw [HS3.out, HF.out]; rfl
          have hT3 := hT2.out
          rw [← hyf.out] at hT3
          rw [eS] at hT3 ⊢
          exact ⟨g', cp', _, _, rfl, HR8.out, hT3, HB8.out⟩
end
end Go.Proofs.YthblpnnbkjhmhaaDoor
