/- The contracts of the document's Reached and Itself. Condition: the types can be read, each pointer has a target. -/
import Derived.Test.YtnkjlocjfljjlaaTReach
import Derived.Test.YtnkjlocjfljjlaaTApp
import Derived.Test.YtnkjlocjfljjlaaTRType
namespace Go.Proofs.Ytnkjlocjfljjlaa
open Go.RowKit
set_option maxRecDepth 100000
set_option maxHeartbeats 4000000

structure Rnw (ts : List Ty) (s N : List Nat) : Prop where
  nd : N.Nodup
  of : ∀ x ∈ N, x ∉ s ∧ x < ts.length ∧ ∃ y ∈ s, edge ts y x
theorem Rnw.len {ts : List Ty} {s N : List Nat} (h : Rnw ts s N) : (s ++ N).length ≤ s.length + ts.length := by
  rw [List.length_append]
  have := nodup_le ts.length N h.nd fun x hx => (h.of x hx).2.1
  omega
def Rci (ts : List Ty) (s : List Nat) (j : Nat) (N : List Nat) : Prop := ∀ (t y : Nat), t < j → s[t]? = some y → ∀ x, edge ts y x → x ∈ s ++ N
def Rcm (fs : List Fd) (m : Nat) (out : List Nat) : Prop := ∀ (t : Nat) (f : Fd), t < m → fs[t]? = some f → f.kind = 2 → ∃ x ∈ out, f.ty = (x : Int)
theorem Rcm.next {fs : List Fd} {m : Nat} {out : List Nat} {f : Fd} (h : Rcm fs m out) (hf : fs[m]? = some f) (hs : f.kind = 2 → ∃ x ∈ out, f.ty = (x : Int)) : Rcm fs (m + 1) out := by
  intro t g ht hg hk
  rcases Nat.lt_or_ge t m with hlt | hge
  · exact h t g hlt hg hk
  · obtain rfl : t = m := by omega
    rw [hf] at hg
    injection hg with hg
    subst hg
    exact hs hk
theorem Rcm.more {fs : List Fd} {m : Nat} {out : List Nat} (x : Nat) (h : Rcm fs m out) : Rcm fs m (out ++ [x]) := by
  intro t g ht hg hk
  obtain ⟨a, ha, e⟩ := h t g ht hg hk
  exact ⟨a, by simp [ha], e⟩
theorem Rci.more {ts : List Ty} {s N : List Nat} {j : Nat} (x : Nat) (h : Rci ts s j N) : Rci ts s j (N ++ [x]) := by
  intro t y ht hy z hz
  have := h t y ht hy z hz
  rw [← List.append_assoc]
  exact List.mem_append_left _ this
theorem Rci.next {ts : List Ty} {s N : List Nat} {j y m : Nat} {t : Ty} (h : Rci ts s j N) (hy : s[j]? = some y) (ht : ts[y]? = some t) (hm : Rcm t.fields m (s ++ N)) (hl : t.fields.length ≤ m) : Rci ts s (j + 1) N := by
  intro k z hk hz x hx
  rcases Nat.lt_or_ge k j with hlt | hge
  · exact h k z hlt hz x hx
  · obtain rfl : k = j := by omega
    rw [hy] at hz
    injection hz with hz
    subst hz
    obtain ⟨t', f, ht', hf, hk2, hb⟩ := hx
    rw [ht] at ht'
    injection ht' with ht'
    subst ht'
    obtain ⟨i, hi⟩ := List.mem_iff_getElem?.1 hf
    have hil := (List.getElem?_eq_some_iff.1 hi).1
    obtain ⟨a, ha, e⟩ := hm i f (by omega) hi hk2
    have : a = x := by omega
    exact this ▸ ha
theorem Rnw.more {ts : List Ty} {s N : List Nat} {x y : Nat} (h : Rnw ts s N) (hx : x ∉ s ++ N) (hy : y ∈ s) (he : edge ts y x) (hl : x < ts.length) : Rnw ts s (N ++ [x]) := by
  refine ⟨?_, ?_⟩
  · rw [List.nodup_append]
    refine ⟨h.nd, by simp, fun a ha b hb e => ?_⟩
    simp at hb
    subst hb e
    exact hx (List.mem_append_right _ ha)
  · intro z hz
    rcases List.mem_append.1 hz with h1 | h1
    · exact h.of z h1
    · simp at h1
      subst h1
      exact ⟨fun hh => hx (List.mem_append_left _ hh), hl, y, hy, he⟩
theorem Rci.stp {ts : List Ty} {s N : List Nat} (h : Rnw ts s N) (hc : Rci ts s s.length N) : Stp ts s (s ++ N) :=
  ⟨⟨N, rfl, h.nd, h.of⟩, fun y hy x hx => by
    obtain ⟨t, ht⟩ := List.mem_iff_getElem?.1 hy
    exact hc t y (List.getElem?_eq_some_iff.1 ht).1 ht x hx⟩
theorem fit_zs {l : List Nat} (h : ∀ x ∈ l, x < 1000) : Fit (zs l) := by
  intro x hx
  simp only [zs, List.mem_map] at hx
  obtain ⟨n, hn, rfl⟩ := hx
  have := h n hn
  omega
theorem zs_at {l : List Nat} {i : Nat} {x : Int} (h : (zs l)[i]? = some x) : ∃ y : Nat, l[i]? = some y ∧ x = (y : Int) := by
  simp only [zs, List.getElem?_map, Option.map_eq_some_iff] at h
  obtain ⟨y, h1, h2⟩ := h
  exact ⟨y, h1, h2.symm⟩
def Fnd (l : List Nat) (x q : Nat) (b : Bool) : Prop := b = true ↔ ∃ t, t < q ∧ l[t]? = some x
section
variable {w : World}
theorem rreached_any (A : Option Addr) (n cap : Nat) (ts : List Ty) (h : Lt w A n cap ts) (hn : n ≤ 32) (hp : Pok ts) (SA : Option Addr) (k c : Nat) (s : List Nat) (hs : Li w SA k c (zs s)) (hsn : ∀ x ∈ s, x < n) (hk : k ≤ 1000) :
    Calls Try.prog 46 #[.slice A n cap, .slice SA k c] w fun e w' => ∃ v' out, e = .returned v' ∧ Oi w' w.heap.size v' (zs out) ∧ Stp ts s out ∧ Below w.heap.size w w' := by
  have hle := h.le
  have hmx := h.max
  have HN := Lib.hid h.len
  have H := Lib.hid h
  have HP := Lib.hid hp
  have hsl := hs.le
  have hsm := hs.max
  have HSL := Lib.hid (show s.length = k by rw [← hs.len, zs_len])
  have HS := Lib.hid hs
  have HSN := Lib.hid hsn
  have HF := Lib.hid (show ∀ x ∈ s, x < 1000 from fun x hx => by have := hsn x hx; omega)
  have HZ0 := Lib.hid (show (zs s).length ≤ 1000 by rw [zs_len, HSL.out]; exact hk)
  have HO0 := Lib.hid (show Oi (w.alloc (.cells #[] 3)) w.heap.size (.slice (some ⟨w.heap.size, 0, none⟩) 0 0) [] from ⟨rfl, .inr ⟨w.heap.size, 0, #[], rfl, Nat.le_refl _, heap_alloc_new w _, Nat.le_refl _, by unfold maxLen; omega, rfl, rfl⟩⟩)
  have HS1 := Lib.hid (hs.below ((Below.refl w.heap.size w).alloc (Nat.le_refl _) (.cells #[] 3)) (Nat.le_refl _))
  clear h hp hs hsn
  go_enter Try.func46, Try.ntmps46
  go_wp2_with (at_builtin; refine wpList_iapps rfl (.tmp 11) (.tmp 12) 33 rfl w.heap.size _ [] rfl HO0.out _ (zs s) rfl (src_li HS1.out) (by have := HZ0.out; simp at this ⊢; omega) (by simp) ?_; intro v1 w1 h1 h2; have O1 := Lib.hid h1; have W1 := Lib.hid (((Below.refl w.heap.size w).alloc (Nat.le_refl _) _).trans h2); clear h1 h2)
  go_loopw [5, 6] (fun u i wr => ∃ (j : Nat) (N : List Nat), j ≤ k ∧ i = .int .i64 j ∧ Hid (Rnw ts s N) ∧ Hid (Rci ts s j N) ∧ Hid (Oi wr w.heap.size u (zs (s ++ N))) ∧ Hid (Below w.heap.size w wr)) (fun _ i _ => k - (intOf i).toNat)
  case atStart => exact ⟨0, [], Nat.zero_le _, rfl, ⟨List.nodup_nil, by simp⟩, fun t y ht => absurd ht (by omega), by show Oi _ _ _ _; simpa using O1.out, W1.out⟩
  case round =>
    obtain ⟨j, N, hj, rfl, HNN, HC, HO, HW⟩ := hrel
    by_cases hlt : j < k
    · obtain ⟨sb, so, x0, rfl, hx0, _, _, hsb, hcx⟩ := (HS.out.below HW.out (Nat.le_refl _)).intAt j hlt
      obtain ⟨y, hy, rfl⟩ := zs_at hx0.out
      have HY := Lib.hid hy
      have hyn : y < n := HSN.out y (List.mem_of_getElem? hy)
      have hji : (j : Int) < (k : Int) := by omega
      have hyi : (y : Int) < (n : Int) := by omega
      obtain ⟨b, o, t, FA, fk, fc, rfl, hu, hnm, hb, c0, c1, c2, c3, hf⟩ := H.out.at y hyn
      obtain ⟨tn, tv, tr, fs⟩ := t
      simp only at hf
      replace c3 := (HW.out.cell (p := ⟨b, o + y * 4 + 3, none⟩) hb).trans c3
      have hfl := hf.out.le
      have hfm := hf.out.max
      have FL := Lib.hid hf.out.len
      clear c0 c1 c2 hy hx0
      go_wp2_with fail
      go_loopw [5, 8] (fun u i wr => ∃ (m : Nat) (N : List Nat), m ≤ fk ∧ i = .int .i64 m ∧ Hid (Rnw ts s N) ∧ Hid (Rci ts s j N) ∧ Hid (Rcm fs m (s ++ N)) ∧ Hid (Oi wr w.heap.size u (zs (s ++ N))) ∧ Hid (Below w.heap.size w wr)) (fun _ i _ => fk - (intOf i).toNat)
      case atStart => exact ⟨0, N, Nat.zero_le _, rfl, HNN.out, HC.out, fun t f ht => absurd ht (by omega), HO.out, HW.out⟩
      case round =>
        clear HNN HC HO HW c3 hcx
        obtain ⟨m, N, hm, rfl, HNN, HC, HM, HO, HW⟩ := hrel
        by_cases hlm : m < fk
        · obtain ⟨fb, fo, f, rfl, hf', hok, hb', c0, c1, c2, c3, c4⟩ := (hf.out.below HW.out (Nat.le_refl _)).at m hlm
          have hmi : (m : Int) < (fk : Int) := by omega
          have HLN := Lib.hid (HNN.out.len)
          have hln : (s ++ N).length ≤ 2000 := by have := HLN.out; rw [HSL.out, HN.out] at this; omega
          have HFN := Lib.hid (show ∀ x ∈ s ++ N, x < 1000 from fun x hx => by
            rcases List.mem_append.1 hx with h1 | h1
            · exact HF.out x h1
            · have := (HNN.out.of x h1).2.1
              rw [HN.out] at this
              omega)
          obtain ⟨OA, ok, oc, rfl, hol⟩ := HO.out.form (fit_zs HFN.out)
          have hoe := hol.le
          have hom := hol.max
          have HOL := Lib.hid hol
          have HOK := Lib.hid (show (s ++ N).length = ok by rw [← hol.len, zs_len])
          have hokb : ok ≤ 2000 := by rw [← HOK.out]; exact hln
          clear hol hln
          by_cases hk2 : f.kind = 2
          · obtain ⟨x, hx, hxn⟩ := HP.out _ (List.mem_of_getElem? hu.out) f (List.mem_of_getElem? hf'.out) hk2
            have HXN := Lib.hid hxn
            rw [HN.out] at hxn
            have HED := Lib.hid (show edge ts y x from ⟨_, f, hu.out, List.mem_of_getElem? hf'.out, hk2, hx⟩)
            obtain ⟨kd, ln, ty, lk, ky⟩ := f
            simp only at c0 c1 c2 c3 c4 hk2 hx
            subst hk2 hx
            clear hok
            go_wp2_with fail
            go_loopw [9, 10] (fun fd i wr => ∃ (q : Nat) (b : Bool), q ≤ ok ∧ fd = .bool b ∧ i = .int .i64 q ∧ Hid (Fnd (s ++ N) x q b) ∧ Hid (Li wr OA ok oc (zs (s ++ N))) ∧ Hid (Oi wr w.heap.size (.slice OA ok oc) (zs (s ++ N))) ∧ Hid (Below w.heap.size w wr)) (fun _ i _ => ok - (intOf i).toNat)
            case atStart => exact ⟨0, false, Nat.zero_le _, rfl, rfl, ⟨(fun e => by cases e), fun ⟨t, ht, _⟩ => absurd ht (by omega)⟩, HOL.out, HO.out, HW.out⟩
            case round =>
              clear HO HW HOL c0 c1 c2 c3 c4
              obtain ⟨q, b, hq, rfl, rfl, HBQ, HL, HO, HW⟩ := hrel
              by_cases hlq : q < ok
              · have hqi : (q : Int) < (ok : Int) := by omega
                cases b
                · obtain ⟨ob, oo, z0, rfl, hz0, _, _, hob, hcz⟩ := HL.out.intAt q hlq
                  obtain ⟨z, hz, rfl⟩ := zs_at hz0.out
                  obtain ⟨r0, r1, r2, r3, r4⟩ := (hf.out.below HW.out (Nat.le_refl _)).five hf'.out
                  simp only at r2
                  clear r0 r1 r3 r4 hz0
                  by_cases hzx : z = x
                  · subst hzx
                    have HB2 := Lib.hid (show Fnd (s ++ N) z (q + 1) true from ⟨fun _ => ⟨q, by omega, hz⟩, fun _ => rfl⟩)
                    clear hz
                    go_wp2_with fail
                    go_quiet (fail)
                    go_wp2_with fail
                    go_roundw
                    case rel => exact ⟨q + 1, true, by omega, by simp, by go_num, HB2.out, HL.out.below (below_drewN (Below.refl _ _) _) (Nat.le_refl _), HO.out.keep (below_drewN (Below.refl _ _) _) (Nat.le_refl _), below_drewN HW.out _⟩
                    case measure => simp [intOf]; omega
                  · have hzi : ((z : Int) == (x : Int)) = false := by simp; omega
                    have HB2 := Lib.hid (show Fnd (s ++ N) x (q + 1) false from by
                      refine ⟨(fun e => by cases e), fun ⟨t, ht, htx⟩ => ?_⟩
                      rcases Nat.lt_or_ge t q with h1 | h1
                      · exact HBQ.out.2 ⟨t, h1, htx⟩
                      · obtain rfl : t = q := by omega
                        rw [hz] at htx
                        injection htx with htx
                        exact absurd htx hzx)
                    clear hz
                    go_wp2_with fail
                    go_quiet (fail)
                    go_wp2_with fail
                    go_roundw
                    case rel => exact ⟨q + 1, false, by omega, by simp, by go_num, HB2.out, HL.out.below (below_drewN (Below.refl _ _) _) (Nat.le_refl _), HO.out.keep (below_drewN (Below.refl _ _) _) (Nat.le_refl _), below_drewN HW.out _⟩
                    case measure => simp [intOf]; omega
                · have HB2 := Lib.hid (show Fnd (s ++ N) x (q + 1) true from ⟨fun _ => by
                    obtain ⟨t, ht, htx⟩ := HBQ.out.1 rfl
                    exact ⟨t, by omega, htx⟩, fun _ => rfl⟩)
                  go_wp2_with fail
                  go_quiet (fail)
                  go_wp2_with fail
                  go_roundw
                  case rel => exact ⟨q + 1, true, by omega, by simp, by go_num, HB2.out, HL.out.below (below_drewN (Below.refl _ _) _) (Nat.le_refl _), HO.out.keep (below_drewN (Below.refl _ _) _) (Nat.le_refl _), below_drewN HW.out _⟩
                  case measure => simp [intOf]; omega
              · obtain rfl : q = ok := by omega
                cases b
                · have hxs : x ∉ s ++ N := by
                    intro hm
                    obtain ⟨t, ht⟩ := List.mem_iff_getElem?.1 hm
                    have := HBQ.out.2 ⟨t, by rw [← HOK.out]; exact (List.getElem?_eq_some_iff.1 ht).1, ht⟩
                    cases this
                  have HNN2 := Lib.hid (HNN.out.more hxs (List.mem_of_getElem? HY.out) HED.out HXN.out)
                  have HC2 := Lib.hid (HC.out.more x)
                  have HM2 := Lib.hid ((HM.out.more x).next hf'.out fun _ => ⟨x, by simp, rfl⟩)
                  have HZL := Lib.hid (show (zs (s ++ N)).length ≤ 100000 by rw [zs_len, HOK.out]; omega)
                  obtain ⟨r0, r1, r2, r3, r4⟩ := (hf.out.below HW.out (Nat.le_refl _)).five hf'.out
                  simp only at r2
                  have hws := HW.out.size
                  clear r0 r1 r3 r4 hxs
                  go_wp2_with (at_builtin; refine wpList_iapp rfl _ _ rfl w.heap.size _ _ rfl HO.out (x : Int) rfl HZL.out hws ?_; intro v4 w4 h4 h5; have H4 := Lib.hid h4; have H5 := Lib.hid (HW.out.trans h5); clear h4 h5)
                  go_roundw
                  case rel =>
                    refine ⟨m + 1, N ++ [x], by omega, by go_num, HNN2.out, HC2.out, ?_, ?_, H5.out⟩
                    · rw [← List.append_assoc]
                      exact HM2.out
                    · show Oi _ _ _ _
                      rw [← List.append_assoc, zs_app]
                      exact H4.out
                  case measure => simp [intOf]; omega
                · have HM2 := Lib.hid (HM.out.next hf'.out fun _ => by
                    obtain ⟨t, _, ht⟩ := HBQ.out.1 rfl
                    exact ⟨x, List.mem_of_getElem? ht, rfl⟩)
                  go_wp2_with fail
                  go_roundw
                  case rel => exact ⟨m + 1, N, by omega, by go_num, HNN.out, HC.out, HM2.out, HO.out, HW.out⟩
                  case measure => simp [intOf]; omega
          · have hk2' : (f.kind != 2) = true := by simp [hk2]
            have HM2 := Lib.hid (HM.out.next hf'.out fun e => absurd e hk2)
            go_wp2_with fail
            go_loopw [9, 10] (fun fd i wr => ∃ q : Nat, q ≤ ok ∧ fd = .bool true ∧ i = .int .i64 q ∧ Hid (Oi wr w.heap.size (.slice OA ok oc) (zs (s ++ N))) ∧ Hid (Below w.heap.size w wr)) (fun _ i _ => ok - (intOf i).toNat)
            case atStart => exact ⟨0, Nat.zero_le _, rfl, rfl, HO.out, HW.out⟩
            case round =>
              clear HO HW c0 c1 c2 c3 c4
              obtain ⟨q, hq, rfl, rfl, HO, HW⟩ := hrel
              by_cases hlq : q < ok
              · have hqi : (q : Int) < (ok : Int) := by omega
                go_wp2_with fail
                go_quiet (fail)
                go_wp2_with fail
                go_roundw
                case rel => exact ⟨q + 1, by omega, rfl, by go_num, HO.out.keep (below_drewN (Below.refl _ _) _) (Nat.le_refl _), below_drewN HW.out _⟩
                case measure => simp [intOf]; omega
              · obtain rfl : q = ok := by omega
                go_wp2_with fail
                go_roundw
                case rel => exact ⟨m + 1, N, by omega, by go_num, HNN.out, HC.out, HM2.out, HO.out, HW.out⟩
                case measure => simp [intOf]; omega
        · obtain rfl : m = fk := by omega
          have HC2 := Lib.hid (HC.out.next HY.out (t := ⟨tn, tv, tr, fs⟩) hu.out HM.out (Nat.le_of_eq FL.out))
          go_wp2_with fail
          go_roundw
          case rel => exact ⟨j + 1, N, by omega, by go_num, HNN.out, HC2.out, HO.out, HW.out⟩
          case measure => simp [intOf]; omega
    · obtain rfl : j = k := by omega
      go_wp2_with fail
      go_ret
      refine ⟨_, s ++ N, rfl, HO.out, Rci.stp HNN.out ?_, HW.out⟩
      rw [HSL.out]
      exact HC.out
end
end Go.Proofs.Ytnkjlocjfljjlaa
