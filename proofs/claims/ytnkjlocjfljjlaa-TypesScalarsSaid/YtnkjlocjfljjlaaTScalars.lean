/- TypesScalars: the walk. Condition: the argument can be read. -/
import Derived.Test.YtnkjlocjfljjlaaTChecks
import Derived.Test.YtnkjlocjfljjlaaTPWords
import Derived.Test.YtnkjlocjfljjlaaWLaw
namespace Go.Proofs.Ytnkjlocjfljjlaa
open Go.RowKit
set_option maxRecDepth 100000
set_option maxHeartbeats 4000000
def sf (n : Nat) : Fd := ⟨1, 1 + ((n % 16 : Nat) : Int), 0, 0, 0⟩
theorem sf_ok (n : Nat) : (sf n).ok := by
  have : n % 16 < 16 := Nat.mod_lt _ (by decide)
  exact ⟨by unfold Rg sf; simp, by unfold Rg sf; simp only; omega, by unfold Rg sf; simp, by unfold Rg sf; simp, by unfold Rg sf; simp⟩
theorem sf_sz (n : Nat) : fsz (sf n) = 8 * (1 + ((n % 16 : Nat) : Int)) := by
  have : n % 16 < 16 := Nat.mod_lt _ (by decide)
  unfold fsz sf
  rw [if_pos ⟨rfl, by simp only; omega, by simp only; omega⟩]
theorem sf_fd (ts : List Ty) (v : Bool) (n : Nat) : fdE ts v (sf n) = 0 := by
  have : n % 16 < 16 := Nat.mod_lt _ (by decide)
  have hb : bel v (sf n) = true := by simp [bel, sf]
  unfold fdE
  rw [hb, if_neg (by decide), if_pos (show (sf n).kind = 1 from rfl), if_pos]
  unfold sf
  simp only
  omega
theorem map_sf {l : List Nat} {f : Fd} (h : f ∈ l.map sf) : ∃ n, f = sf n := by
  obtain ⟨n, _, e⟩ := List.mem_map.1 h
  exact ⟨n, e.symm⟩
theorem sc_lk (l : List Nat) : lkF (l.map sf) = true := by
  have h1 : lks (l.map sf) = 0 := by
    unfold lks
    rw [List.countP_eq_zero]
    intro f hf
    obtain ⟨n, rfl⟩ := map_sf hf
    simp [isK, sf]
  have h2 : grs (l.map sf) = 0 := by
    unfold grs
    rw [List.countP_eq_zero]
    intro f hf
    obtain ⟨n, rfl⟩ := map_sf hf
    simp [isG, sf]
  simp [lkF, h1, h2]
theorem sc_ty (ts : List Ty) (s : ByteArray) (v r : Bool) (l : List Nat) (hl : l.length ≤ 12) (hvr : (v && r) = false) : tyE ts ⟨s, v, r, l.map sf⟩ = if 256 < 8 + szs (l.map sf) then 11 else 0 := by
  have h0 : firstE (fdE ts v) (l.map sf) = 0 := firstE_end fun j y hy => by
    obtain ⟨n, rfl⟩ := map_sf (List.mem_of_getElem? hy)
    exact sf_fd _ _ _
  unfold tyE
  simp only
  rw [if_neg (by simp; omega), if_neg (by rw [hvr]; decide), if_neg (by rw [h0]; decide), if_neg (by rw [sc_lk]; decide), laE_of h0 (by simp; omega)]
theorem sc_la (l : List Nat) (hl : l.length ≤ 12) : laE (l.map sf) = if 256 < 8 + szs (l.map sf) then 11 else 0 := by
  have h0 : firstE (fdE [] false) (l.map sf) = 0 := firstE_end fun j y hy => by
    obtain ⟨n, rfl⟩ := map_sf (List.mem_of_getElem? hy)
    exact sf_fd _ _ _
  exact laE_of h0 (by simp; omega)
def ts1 (v r : Bool) (l : List Nat) : List Ty := [⟨⟨#[116]⟩, v, r, l.map sf⟩]
theorem sc_reach (v r : Bool) (l : List Nat) (i : Nat) : reach (ts1 v r l) i = false := by
  unfold reach
  refine @decide_eq_false _ (_) ?_
  intro h
  have go : ∀ a b, ¬ edge (ts1 v r l) a b := by
    rintro a b ⟨t, f, ht, hf, hk, _⟩
    have hm := List.mem_of_getElem? ht
    simp [ts1] at hm
    subst hm
    obtain ⟨n, rfl⟩ := map_sf hf
    simp [sf] at hk
  cases h with
  | single h => exact go _ _ h
  | tail _ h => exact go _ _ h
theorem sc_ck (v r : Bool) (l : List Nat) (hl : l.length ≤ 12) (hvr : (v && r) = false) : ckE (ts1 v r l) = if 256 < 8 + szs (l.map sf) then 11 else 0 := by
  have e : tpE (ts1 v r l) 0 = if 256 < 8 + szs (l.map sf) then 11 else 0 := by
    rw [tp_go (t := ⟨⟨#[116]⟩, v, r, l.map sf⟩) rfl (by show nm (ofS ⟨#[116]⟩) = true; decide +kernel) (dup_false (by intro j u hj; omega))]
    exact sc_ty _ _ _ _ _ hl hvr
  by_cases h : 256 < 8 + szs (l.map sf)
  · rw [if_pos h] at e ⊢
    rw [(ck_one (ts := ts1 v r l) (i := 0) (by simp [ts1]) (by simp [ts1]) (fun j hj => absurd hj (by omega)) (by rw [e]; decide)).2, e]
  · rw [if_neg h] at e ⊢
    refine (ck_ok (ts := ts1 v r l) (by simp [ts1]) (fun j hj => ?_) (fun j hj => ?_)).2
    · simp [ts1] at hj
      subst hj
      exact e
    · simp [ts1] at hj
      subst hj
      have h2 := sc_reach v r l 0
      have h3 : (ts1 v r l)[0]? = some ⟨⟨#[116]⟩, v, r, l.map sf⟩ := rfl
      unfold rfE
      rw [h3]
      simp only [h2, Bool.and_false]
      rfl
theorem scalars_walk (A : Option Addr) (k cap : Nat) (bv br : Bool) (w : World) (h : ∃ bs, Rd w A k cap bs) :
    Calls Try.prog 10 #[.slice A k cap, .bool bv, .bool br] w fun e w' => e = .returned (.bool true) ∧ Below w.heap.size w w' := by
  obtain ⟨bs, h⟩ := h
  have hle := h.le
  have hmx := h.max
  have HL := Lib.hid h.len
  have H := Lib.hid h
  clear h
  obtain ⟨xv, hxv⟩ : ∃ xv, xv = bv := ⟨_, rfl⟩
  obtain ⟨rr, hrr⟩ : ∃ rr, rr = (br && !bv) := ⟨_, rfl⟩
  have hvr : (xv && rr) = false := by rw [hrr, hxv]; cases bv <;> cases br <;> rfl
  have HVR := Lib.hid hvr
  have HXV := Lib.hid hxv
  have HRR := Lib.hid hrr
  clear hvr hxv hrr
  cases bv <;> cases br
  all_goals
    go_enter Try.func10, Try.ntmps10
    go_wp2_with (go_at_call 11; refine (shown_any).mono ?_; rintro e w1 ⟨rfl, h1⟩; have W1 := Lib.hid h1; have hs1 := h1.size; clear h1)
    go_loopw [9, 10] (fun s i wr => ∃ (j : Nat) (S : Int) (v : Value), j ≤ k ∧ j ≤ 12 ∧ 0 ≤ S ∧ S ≤ 128 * j ∧ s = .int .i64 (8 + S) ∧ i = .int .i64 j ∧ Hid (szs ((bs.take j).map sf) = S) ∧ Hid (Blk wr w1.heap.size 32 #[.string ⟨#[116]⟩, .bool xv, .bool rr, v]) ∧ Hid (Of wr (w1.heap.size + 1) v ((bs.take j).map sf)) ∧ Hid (Below w.heap.size w wr)) (fun _ i _ => k - (intOf i).toNat)
    case atStart =>
      refine ⟨0, 0, .slice none 0 0, Nat.zero_le _, Nat.zero_le _, by omega, by omega, rfl, rfl, rfl, ?_, Of.nil _ _, W1.out.alloc hs1 _⟩
      rw [HXV.out, HRR.out]
      exact Blk.new _ _ _
    case round =>
      obtain ⟨j, S, v, hj, h12, hS0, hS1, rfl, rfl, HS, HBK, HO, HW⟩ := hrel
      have hws := HW.out.size
      have htb := HBK.out.lt
      by_cases hlt : j < k
      case neg =>
        obtain rfl : j = k := by omega
        have hl12 : (bs.take j).length ≤ 12 := by rw [List.length_take]; omega
        have HCK := Lib.hid (sc_ck xv rr (bs.take j) hl12 HVR.out)
        have HLA := Lib.hid (sc_la (bs.take j) hl12)
        rw [HS.out] at HCK HLA
        obtain ⟨FA, fk, fc, rfl, hLf, _⟩ := HO.out.form (fun f hf => by obtain ⟨n, rfl⟩ := map_sf hf; exact sf_ok n)
        have HF := Lib.hid hLf
        obtain ⟨c0, c1, c2, c3⟩ := four HBK.out (Below.refl wr.heap.size wr) htb
        obtain ⟨w5, hw5⟩ : ∃ w5, w5 = wr.alloc (Obj.cells #[.string ⟨#[116]⟩, .bool xv, .bool rr, .slice FA fk fc] 32) := ⟨_, rfl⟩
        have L5 := Lib.hid (show Below wr.heap.size wr w5 by rw [hw5]; exact (Below.refl _ _).alloc (Nat.le_refl _) _)
        have LT5 := Lib.hid (show Lt w5 (some ⟨wr.heap.size, 0, none⟩) 1 1 (ts1 xv rr (bs.take j)) from Lt.blk (l := [⟨⟨⟨#[116]⟩, xv, rr, (bs.take j).map sf⟩, FA, fk, fc⟩]) (by rw [hw5]; exact Blk.new _ _ _) rfl (fun q hq => by obtain rfl := List.mem_singleton.1 hq; exact ⟨show ByteArray.size ⟨#[116]⟩ ≤ 9223372036854775807 by decide +kernel, HF.out.below L5.out (Nat.le_refl _)⟩) rfl (by omega))
        have HW5 := Lib.hid hw5
        clear hw5 hLf
        have hws5 := L5.out.size
        by_cases hbig : 256 < 8 + S
        · rw [if_pos hbig] at HCK HLA
          go_wp2_with (go_at_call 12; rw [← HW5.out]; refine (check_any _ 1 1 _ LT5.out).mono ?_; rintro e w6 ⟨rfl, h6⟩; rw [HCK.out]; have L6 := Lib.hid (L5.out.trans (h6.mono hws5)); obtain ⟨e0, e1, e2, e3⟩ := four HBK.out L6.out htb; clear h6)
          go_wp2_with (go_at_call 14; refine (layout_any ⟨#[116]⟩ xv rr FA fk fc _ (HF.out.below L6.out (Nat.le_refl _))).mono ?_; rintro e w7 ⟨v7, rfl, _, h7⟩; rw [HLA.out]; have L7 := Lib.hid (L6.out.trans (h7.mono L6.out.size)); clear h7)
          go_ret
          exact ⟨rfl, HW.out.trans (L7.out.mono hws)⟩
        · rw [if_neg hbig] at HCK HLA
          have HLN := Lib.hid (show laN ((bs.take j).map sf) = 8 + S by unfold laN; rw [HLA.out, if_pos rfl, HS.out])
          go_wp2_with (go_at_call 12; rw [← HW5.out]; refine (check_any _ 1 1 _ LT5.out).mono ?_; rintro e w6 ⟨rfl, h6⟩; rw [HCK.out]; have L6 := Lib.hid (L5.out.trans (h6.mono hws5)); obtain ⟨e0, e1, e2, e3⟩ := four HBK.out L6.out htb; clear h6)
          go_wp2_with (go_at_call 14; refine (layout_any ⟨#[116]⟩ xv rr FA fk fc _ (HF.out.below L6.out (Nat.le_refl _))).mono ?_; rintro e w7 ⟨v7, rfl, _, h7⟩; rw [HLA.out, HLN.out]; have L7 := Lib.hid (L6.out.trans (h7.mono L6.out.size)); clear h7)
          go_ret
          exact ⟨by simp, HW.out.trans (L7.out.mono hws)⟩
      by_cases hl2 : j < 12
      case neg =>
        have hj12 : j = 12 := by omega
        have hji : (j : Int) < (k : Int) := by omega
        have hj2 : ¬ (j : Int) < 12 := by omega
        clear hj12 hl2
        have hl12 : (bs.take j).length ≤ 12 := by rw [List.length_take]; omega
        have HCK := Lib.hid (sc_ck xv rr (bs.take j) hl12 HVR.out)
        have HLA := Lib.hid (sc_la (bs.take j) hl12)
        rw [HS.out] at HCK HLA
        obtain ⟨FA, fk, fc, rfl, hLf, _⟩ := HO.out.form (fun f hf => by obtain ⟨n, rfl⟩ := map_sf hf; exact sf_ok n)
        have HF := Lib.hid hLf
        obtain ⟨c0, c1, c2, c3⟩ := four HBK.out (Below.refl wr.heap.size wr) htb
        obtain ⟨w5, hw5⟩ : ∃ w5, w5 = wr.alloc (Obj.cells #[.string ⟨#[116]⟩, .bool xv, .bool rr, .slice FA fk fc] 32) := ⟨_, rfl⟩
        have L5 := Lib.hid (show Below wr.heap.size wr w5 by rw [hw5]; exact (Below.refl _ _).alloc (Nat.le_refl _) _)
        have LT5 := Lib.hid (show Lt w5 (some ⟨wr.heap.size, 0, none⟩) 1 1 (ts1 xv rr (bs.take j)) from Lt.blk (l := [⟨⟨⟨#[116]⟩, xv, rr, (bs.take j).map sf⟩, FA, fk, fc⟩]) (by rw [hw5]; exact Blk.new _ _ _) rfl (fun q hq => by obtain rfl := List.mem_singleton.1 hq; exact ⟨show ByteArray.size ⟨#[116]⟩ ≤ 9223372036854775807 by decide +kernel, HF.out.below L5.out (Nat.le_refl _)⟩) rfl (by omega))
        have HW5 := Lib.hid hw5
        clear hw5 hLf
        have hws5 := L5.out.size
        by_cases hbig : 256 < 8 + S
        · rw [if_pos hbig] at HCK HLA
          go_wp2_with (go_at_call 12; rw [← HW5.out]; refine (check_any _ 1 1 _ LT5.out).mono ?_; rintro e w6 ⟨rfl, h6⟩; rw [HCK.out]; have L6 := Lib.hid (L5.out.trans (h6.mono hws5)); obtain ⟨e0, e1, e2, e3⟩ := four HBK.out L6.out htb; clear h6)
          go_wp2_with (go_at_call 14; refine (layout_any ⟨#[116]⟩ xv rr FA fk fc _ (HF.out.below L6.out (Nat.le_refl _))).mono ?_; rintro e w7 ⟨v7, rfl, _, h7⟩; rw [HLA.out]; have L7 := Lib.hid (L6.out.trans (h7.mono L6.out.size)); clear h7)
          go_ret
          exact ⟨rfl, HW.out.trans (L7.out.mono hws)⟩
        · rw [if_neg hbig] at HCK HLA
          have HLN := Lib.hid (show laN ((bs.take j).map sf) = 8 + S by unfold laN; rw [HLA.out, if_pos rfl, HS.out])
          go_wp2_with (go_at_call 12; rw [← HW5.out]; refine (check_any _ 1 1 _ LT5.out).mono ?_; rintro e w6 ⟨rfl, h6⟩; rw [HCK.out]; have L6 := Lib.hid (L5.out.trans (h6.mono hws5)); obtain ⟨e0, e1, e2, e3⟩ := four HBK.out L6.out htb; clear h6)
          go_wp2_with (go_at_call 14; refine (layout_any ⟨#[116]⟩ xv rr FA fk fc _ (HF.out.below L6.out (Nat.le_refl _))).mono ?_; rintro e w7 ⟨v7, rfl, _, h7⟩; rw [HLA.out, HLN.out]; have L7 := Lib.hid (L6.out.trans (h7.mono L6.out.size)); clear h7)
          go_ret
          exact ⟨by simp, HW.out.trans (L7.out.mono hws)⟩
      obtain ⟨b, o, y, rfl, hy, HY, hc⟩ := (H.out.below HW.out (Nat.le_refl _)).byteAt j hlt
      have hji : (j : Int) < (k : Int) := by omega
      have hj2 : (j : Int) < 12 := by omega
      have ht16 : (y : Int).tmod 16 = ((y % 16 : Nat) : Int) := by rw [Int.tmod_eq_emod_of_nonneg (by omega)]; omega
      obtain ⟨z, hz⟩ : ∃ z, z = y % 16 := ⟨_, rfl⟩
      have hz16 : z < 16 := by omega
      rw [← hz] at ht16
      have HZ := Lib.hid hz
      have HSN := Lib.hid (show (bs.take (j + 1)).map sf = (bs.take j).map sf ++ [sf y] by
        have hl := HL.out
        rw [List.take_add_one, List.getElem?_eq_getElem (by omega)]
        have := HY.out
        rw [List.getD_eq_getElem?_getD, List.getElem?_eq_getElem (by omega)] at this
        simp at this
        simp [this])
      have LA := Lib.hid (show ((bs.take j).map sf).length ≤ 100000 by simp; omega)
      obtain ⟨fs, hfs⟩ : ∃ fs, (bs.take j).map sf = fs := ⟨_, rfl⟩
      rw [hfs] at HO HS HSN LA
      clear hfs
      have c3 := HBK.out.cell 3
      have NE := Lib.hid (show some w1.heap.size ≠ v.ownBlock from fun e1 => by have := (HO.out.lt e1.symm).1; omega)
      simp at c3
      clear hz hy
      go_wp2_with (at_builtin; refine wpList_fapp rfl _ _ rfl (w1.heap.size + 1) v _ rfl HO.out ⟨1, 1 + (z : Int), 0, 0, 0⟩ _ rfl rfl LA.out (by omega) ?_; intro g4 cc4 w4 hown4 hgrow hat4 hlt4; have H4 := Lib.hid hown4; have B4 := Lib.hid (show Blk w4 w1.heap.size 32 _ from (hgrow.block _ htb NE.out).trans HBK.out); have z3 := B4.out.frozen 3; have d3 := B4.out.cell 3; simp at d3; have H5 := Lib.hid (HW.out.grown hgrow hws (fun r hr => (by have := (HO.out.lt hr).1; omega))); have hg4 := (hown4.lt (g := g4) rfl).1; clear hown4 hgrow hat4)
      go_roundw
      case rel =>
        refine ⟨j + 1, S + 8 * (1 + (z : Int)), _, by omega, by omega, by omega, by omega, by go_num, by go_num, ?_, B4.out.put 3 _, ?_, H5.out.setCell (by simp only; omega) _⟩
        · show _ = _
          rw [HSN.out, szs_snoc, HS.out, sf_sz, ← HZ.out]
        · show Of _ _ _ _
          rw [HSN.out]
          have e : sf y = ⟨1, 1 + (z : Int), 0, 0, 0⟩ := by unfold sf; rw [← HZ.out]
          rw [e]
          refine H4.out.keepB fun g hg => ?_
          injection hg with hg
          subst hg
          exact Below.heap_setCell _ _ _ _ (by simp only; omega)
      case measure => simp [intOf]; omega
end Go.Proofs.Ytnkjlocjfljjlaa
