/- The contract of the slab's Alloc. Conditions: the tables lie in their blocks, below the slab's; the slab's blocks are known. -/
import Derived.Test.YthblpnnbkjhmhaaDoorSGhost2
namespace Go.Proofs.YthblpnnbkjhmhaaDoor
open Go.RowKit
open Pool (num cnt upd Pl low setR num_testBit)

/-- Both tables lie in their blocks, below all of the slab. -/
structure Tb (w : World) (L : Pt) : Prop where
  tab : Tab w
  cl : Cl w
  lw : 1 < w.heap.size ∧ 1 < L.ga ∧ 1 < L.pp ∧ 1 < L.gp
  lc : 0 < w.heap.size ∧ 0 < L.ga ∧ 0 < L.pp ∧ 0 < L.gp
theorem Tb.fr {w w' : World} {L : Pt} (h : Tb w L) (ho : Fr L.ga L.pp L.gp w w') : Tb w' L := by
  have := ho.size
  obtain ⟨t, fr, e⟩ := h.cl
  exact ⟨h.tab.fr ho h.lw.1 h.lw.2.1 h.lw.2.2.1 h.lw.2.2.2, ⟨t, fr, (ho.block _ h.lc.1 (by have := h.lc; omega) (by have := h.lc; omega) (by have := h.lc; omega)).trans e⟩, ⟨by have := h.lw; omega, h.lw.2⟩, ⟨by have := h.lc; omega, h.lc.2⟩⟩
theorem Tb.below {w w' : World} {L : Pt} (h : Tb w L) (ho : Below w.heap.size w w') : Tb w' L := h.fr (Fr.of_below ho (Nat.le_refl _))

section
variable {w w' : World} {L : Pt} {n : Nat} {s : St} {f : Nat → Int}
theorem Sl.fr_below (h : Sl w L n s f) (ho : Below w.heap.size w w') : Sl w' L n s f := ⟨h.raw.below ho (Nat.le_refl _), h.inv, h.lnk⟩

theorem pgOf_spec {c k : Nat} (h : pgOf n s c = some k) : k < n ∧ ∃ a l, s k = (c, a :: l) := by
  unfold pgOf at h
  rw [List.find?_range_eq_some] at h
  obtain ⟨h1, h2, _⟩ := h
  simp [has] at h1 h2
  refine ⟨h2, ?_⟩
  cases hl : (s k).2 with
  | nil => exact absurd hl h1.2
  | cons a l => exact ⟨a, l, by rw [← h1.1, ← hl]⟩

/-- The page it takes of, in the state ahead of the taking. -/
structure Pgd (w w' : World) (L : Pt) (n : Nat) (s s' : St) (f f' : Nat → Int) (c k a : Nat) (l : List Nat) : Prop where
  raw : Rw w' L n (rawOf s') f' (tkp s' n)
  inv : Inv0 n s'
  lnk : ∀ i, Link f' (s' i).2
  at_ : s' k = (c, a :: l)
  lt : k < n
  kept : ∀ x, inT s x → f' x = f x ∧ ¬ (a ≤ x ∧ x < a + c)
  more : ∀ i, i ≠ k → (s' i).1 ≠ 0 → ∃ b, b ∈ blks i (s' i).1 ∧ b ∉ (s' i).2
  fr : Fr L.ga L.pp L.gp w w'

theorem pageFor_sl (size : Int) (hT : Tb w L) (h : Sl w L n s f) :
    Calls Tryd.prog 32 #[.pointer (some ⟨L.p, 0, none⟩), .int .i64 (clsOf size : Nat)] w fun e w' =>
      (∃ k s' f' a l, alP n s size = some (k, s') ∧ e = .returned (.tuple #[.int .i64 (k : Nat), .bool true]) ∧ Pgd w w' L n s s' f f' (clsOf size) k a l) ∨
      (alP n s size = none ∧ e = .returned (.tuple #[.int .i64 0, .bool false]) ∧ Sl w' L n s f ∧ Fr L.ga L.pp L.gp w w') := by
  have hC := clsOf_isC size
  have hI := h.inv.toInv0
  refine (pageFor_any (clsOf size) hT.tab hT.lw h.raw hC fun i _ => ⟨cls_le hI i, head0_le hI h.raw.small⟩).mono ?_
  rintro e w' (⟨k, hk, hh, hl, rfl, hB⟩ | ⟨hN, ⟨k, hlow, rfl, hR, hF⟩ | ⟨hlow, rfl, hR, hF⟩⟩)
  · have hp := pgOf_some hI hk hh hl
    obtain ⟨_, a, l, hs⟩ := pgOf_spec hp
    have ha : a ∈ blks k (s k).1 := hI.free k a (by rw [hs]; simp)
    refine .inl ⟨k, s, f, a, l, by unfold alP; rw [hp], rfl, h.raw.below hB (Nat.le_refl _), hI, h.lnk, hs, hk, fun x hx => ⟨rfl, ?_⟩, fun i _ hi => h.inv.some i hi, Fr.of_below hB (Nat.le_refl _)⟩
    rintro ⟨x1, x2⟩
    obtain ⟨i, b, hb, y1, y2⟩ := hx
    have hne : a ≠ b := by
      rintro rfl
      have e1 := mem_le (isC_of hI ha) ha
      have e2 := mem_le (isC_of hI hb.1) hb.1
      have := (isC_of hI ha).bd
      have := (isC_of hI hb.1).bd
      obtain rfl : i = k := by omega
      exact hb.2 (by rw [hs]; simp)
    have := far hI ha hb.1 hne
    rw [hs] at this
    dsimp only at this
    omega
  · rw [low_new] at hlow
    obtain ⟨hk, hk0, hs0⟩ := new_spec hlow
    have hs2 : (s k).2 = [] := hI.none k hs0
    have hx0 : (rawOf s k).2.2 = 0 := by unfold rawOf; dsimp only; rw [hs2]; rfl
    obtain ⟨l, hl⟩ := blks_cons k hC
    have hbl : ∀ b ∈ blks k (clsOf size), b ≤ 65536 := fun b hb => by have := mem_le hC hb; have := h.raw.small; omega
    obtain ⟨e1, e2⟩ := pushS_link f _ (blks_apart k hC) hbl
    rw [hx0, tkp_asg hk hC, raw_asg hs0 hC (by rw [e1, hl]; rfl)] at hR
    have hm := h.raw.small
    refine .inl ⟨k, asg s k (clsOf size), _, 512 * k, l, by unfold alP; rw [pgOf_none hI hN, hlow], rfl, hR, inv0_asg hI hk0 hk hC, lnk_asg hI (by omega) hC h.lnk, by rw [asg_at, hl], hk, fun x hx => ?_, fun i hi hc => ?_, hF⟩
    · obtain ⟨i, b, hb, y1, y2⟩ := hx
      have f1 := mem_le (isC_of hI hb.1) hb.1
      have hik : i ≠ k := by
        rintro rfl
        have := (isC_of hI hb.1).bd
        omega
      have := hC.bd
      refine ⟨pushS_other f 0 x _ fun d hd => ?_, by omega⟩
      have f2 := mem_le hC hd
      omega
    · rw [asg_other hi] at hc ⊢
      exact h.inv.some i hc
  · rw [low_new] at hlow
    exact .inr ⟨by unfold alP; rw [pgOf_none hI hN, hlow], rfl, ⟨hR, h.inv, h.lnk⟩, hF⟩

set_option maxRecDepth 100000 in
theorem alloc_any (size : Int) (hT : Tb w L) (h : Sl w L n s f) :
    Calls Tryd.prog 14 #[.pointer (some ⟨L.p, 0, none⟩), .int .i64 size] w fun e w' =>
      e = .returned (.tuple #[.int .i64 (alV n s size), .int .i64 (alE n s size)]) ∧
      ∃ f', Sl w' L n (alS n s size) f' ∧ (∀ x, inT s x → f' x = f x) ∧ (alE n s size = 0 → ∀ x : Nat, alV n s size ≤ x → (x : Int) < alV n s size + clsOf size → f' x = 0) ∧ Fr L.ga L.pp L.gp w w' := by
  have HT := Lib.hid hT
  have H := Lib.hid h
  clear hT h
  cases hok : alOk size with
  | false =>
    have e1 : cofV size = 0 := by unfold cofV; rw [hok]; rfl
    have e2 : alV n s size = 0 := by unfold alV; rw [hok]; rfl
    have e3 : alE n s size = 1 := by unfold alE; rw [hok]; rfl
    have e4 : alS n s size = s := by unfold alS; rw [hok]; rfl
    have E1 := Lib.hid e1
    have HOK := Lib.hid hok
    rw [e2, e3, e4]
    clear e1 e2 e3 e4 hok
    go_enter Tryd.func14, Tryd.ntmps14
    go_wp2_with (go_at_call 31; refine (classOf_any _ HT.out.cl).mono ?_; rw [E1.out, HOK.out]; rintro e w' ⟨rfl, rfl⟩)
    go_ret2
    exact ⟨rfl, f, H.out, fun _ _ => rfl, fun h => by omega, Fr.refl _ _ _ _⟩
  | true =>
    have e1 : cofV size = (clsOf size : Nat) := by unfold cofV; rw [hok]; rfl
    have E1 := Lib.hid e1
    have HOK := Lib.hid hok
    clear e1 hok
    go_enter Tryd.func14, Tryd.ntmps14
    go_wp2_with (go_at_call 31; refine (classOf_any _ HT.out.cl).mono ?_; rw [E1.out, HOK.out]; rintro e w' ⟨rfl, rfl⟩)
    refine (pageFor_sl size HT.out H.out).mono ?_
    rintro e w1 (⟨k, s', f', a, l, hal, rfl, hP⟩ | ⟨hal, rfl, hS, hF⟩)
    · have hC := clsOf_isC size
      have hb := hC.bd
      have hI := hP.inv
      have hs := hP.at_
      have ha : a ∈ blks k (clsOf size) := by have := hI.free k a (by rw [hs]; simp); rwa [hs] at this
      have hm := mem_le hC ha
      have hk := hP.lt
      have hn := hP.raw.small
      have hld : ld f' a 8 = (head0 l : Nat) := by have := hP.lnk k; rw [hs] at this; exact this.1
      have hq : rawOf s' k = (clsOf size, num (tk s' k) 32, a) := by unfold rawOf; rw [hs]; rfl
      have T1 := Lib.hid (HT.out.fr hP.fr)
      have e2 : alV n s size = a := by unfold alV; rw [HOK.out, hal]; dsimp only; rw [hs]; rfl
      have e3 : alE n s size = 0 := by unfold alE; rw [HOK.out, hal]; rfl
      have e4 : alS n s size = popG s' k := by unfold alS; rw [HOK.out, hal]; rfl
      have EV := Lib.hid e2
      have EE := Lib.hid e3
      have ES := Lib.hid e4
      have HP := Lib.hid hP
      have HI := Lib.hid hI
      have HS := Lib.hid hs
      have HC := Lib.hid hC
      have HA := Lib.hid ha
      have HLD := Lib.hid hld
      have HQ := Lib.hid hq
      clear hP hI hs hC ha hld hq e2 e3 e4 hal
      generalize hc : clsOf size = c at *
      go_wp2_with fail
      refine (pop_any k c (num (tk s' k) 32) a (head0 l) T1.out.tab HP.out.raw hk HQ.out HC.out (num_lt32 _) HA.out HLD.out).mono ?_
      rintro e w2 ⟨rfl, r, hfw, hR, hF⟩
      have hz : num (tk s' k) 32 ||| bt (a % 512 / c) = num (tk (popG s' k) k) 32 := by
        have := congrFun (raw_pop HI.out HS.out HA.out HC.out) k
        rw [rput_same] at this
        have := congrArg (fun x => x.2.1) this
        exact this
      rw [hz] at hfw
      have hr := fw_pop HI.out HS.out HC.out hfw
      subst hr
      rw [raw_pop HI.out HS.out HA.out HC.out, ← tkp_pop HS.out] at hR
      have h0 := hR.h0
      have HR := Lib.hid hR
      have HF := Lib.hid (HP.out.fr.trans hF)
      clear hfw hR hF hz
      go_wp2_with fail
      refine (fill_ok L.pa L.ga (512 * n) f' a c 0 HR.out.ar (by omega) (by omega)).mono ?_
      rintro e w3 ⟨rfl, hA, hO⟩
      have R3 := Lib.hid (HR.out.ofAr hO hA)
      have F3 := Lib.hid (HF.out.trans (Fr.of_only hO (.inl rfl)))
      clear hA hO
      go_wp2
      go_ret2
      rw [EV.out, EE.out, ES.out]
      refine ⟨rfl, _, ⟨R3.out, inv_pop HI.out HS.out HA.out HP.out.more, lnk_fill HI.out HS.out HA.out 0 HP.out.lnk⟩, fun x hx => ?_, fun _ x h1 h2 => ?_, F3.out⟩
      · obtain ⟨k1, k2⟩ := HP.out.kept x hx
        unfold fl
        rw [if_neg k2, k1]
      · unfold fl
        rw [if_pos (by omega)]
    · have e2 : alV n s size = 0 := by unfold alV; rw [HOK.out, hal]; rfl
      have e3 : alE n s size = 5 := by unfold alE; rw [HOK.out, hal]; rfl
      have e4 : alS n s size = s := by unfold alS; rw [HOK.out, hal]; rfl
      have EV := Lib.hid e2
      have EE := Lib.hid e3
      have ES := Lib.hid e4
      have HS := Lib.hid hS
      have HF := Lib.hid hF
      clear hS hF hal e2 e3 e4
      go_wp2
      go_ret2
      rw [EV.out, EE.out, ES.out]
      exact ⟨rfl, f, HS.out, fun _ _ => rfl, fun h => by omega, HF.out⟩
end
end Go.Proofs.YthblpnnbkjhmhaaDoor
