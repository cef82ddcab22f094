/- The document's lists in memory: its words; Index, Of. No condition but that its blocks are known. -/
import Derived.Test.YthklbkgehfgdgaaDoorChBothM
import Derived.Deep.RegionHeld3
import Derived.Deep.RegionHeldLaw
namespace Go.Proofs.YthklbkgehfgdgaaDoor
open Go.RowKit

/-- A place's index in a list; its length: it isn't there. -/
def ixN : List Nat → Nat → Nat
  | [], _ => 0
  | a :: l, x => if a = x then 0 else ixN l x + 1
theorem ixN_at : ∀ {xs : List Nat} {x : Nat}, x ∈ xs → xs[ixN xs x]? = some x
  | a :: l, x, h => by
    unfold ixN
    by_cases e : a = x
    · rw [if_pos e, e]; rfl
    · rw [if_neg e, List.getElem?_cons_succ]
      rcases List.mem_cons.1 h with h | h
      · exact absurd h.symm e
      · exact ixN_at h
theorem ixN_le : ∀ {xs : List Nat} {x k : Nat}, xs[k]? = some x → ixN xs x ≤ k
  | [], x, k, h => by simp at h
  | a :: l, x, k, h => by
    unfold ixN
    by_cases e : a = x
    · rw [if_pos e]; exact Nat.zero_le _
    · rw [if_neg e]
      cases k with
      | zero => exact absurd (by simpa using h) e
      | succ k =>
        have := ixN_le (xs := l) (x := x) (k := k) (by simpa using h)
        omega
theorem ixN_erase : ∀ {xs : List Nat} {x : Nat}, x ∈ xs → xs.erase x = xs.take (ixN xs x) ++ xs.drop (ixN xs x + 1)
  | a :: l, x, h => by
    unfold ixN
    by_cases e : a = x
    · subst e; rw [if_pos rfl]; simp
    · rw [if_neg e]
      rcases List.mem_cons.1 h with h | h
      · exact absurd h.symm e
      · rw [List.erase_cons_tail (by simpa using e), ixN_erase h]
        simp
/-- A place's index in a list; -1: it isn't there. -/
def ixI (xs : List Nat) (x : Nat) : Int := if x ∈ xs then (ixN xs x : Nat) else -1
theorem ixI_in {xs : List Nat} {x : Nat} (h : x ∈ xs) : ixI xs x = (ixN xs x : Nat) := by unfold ixI; rw [if_pos h]
theorem ixI_out {xs : List Nat} {x : Nat} (h : x ∉ xs) : ixI xs x = -1 := by unfold ixI; rw [if_neg h]
theorem idx_first {xs : List Nat} {x k : Nat} (hk : xs[k]? = some x) (hn : ∀ j, j < k → xs[j]? ≠ some x) : ixI xs x = (k : Nat) := by
  have hm : x ∈ xs := List.mem_of_getElem? hk
  rw [ixI_in hm]
  have h1 := ixN_le hk
  rcases Nat.lt_or_ge (ixN xs x) k with h | h
  · exact absurd (ixN_at hm) (hn _ h)
  · congr 1; omega
section
variable {w : World}
set_option maxRecDepth 100000 in
theorem rindex_any {B : Bx} {A : Option Addr} {xs : List Nat} (cap k : Nat) (x : Nat) (h : Sx w B A xs) (hk : xs.length = k) (hl : k ≤ 100000) :
    Calls Tryd.prog 38 #[.slice A k cap, .int .i64 x] w fun e w' => e = .returned (.int .i64 (ixI xs x)) ∧ w = w' := by
  have HR := Lib.hid h
  have HK := Lib.hid hk
  clear h hk
  go_enter Tryd.func38, Tryd.ntmps38
  go_wp2_with fail
  go_loop [5] (fun i => ∃ j : Nat, j ≤ k ∧ i = .int .i64 j ∧ Hid (∀ t, t < j → xs[t]? ≠ some x)) (fun i => k - (intOf i).toNat)
  case atStart => exact ⟨0, Nat.zero_le _, rfl, Lib.hid fun t ht => absurd ht (by omega)⟩
  case round =>
    obtain ⟨j, hj, rfl, HN⟩ := hrel
    by_cases hlt : j < k
    · obtain ⟨y, hy⟩ : ∃ y, xs[j]? = some y := ⟨_, List.getElem?_eq_getElem (by rw [HK.out]; exact hlt)⟩
      obtain ⟨b, o, rfl, _, _, c1⟩ := HR.out j y hy
      have hji : (j : Int) < (k : Int) := by omega
      by_cases hyx : y = x
      · subst hyx
        have E := Lib.hid (idx_first hy HN.out)
        clear hy
        go_wp2
        go_ret
        exact ⟨by rw [E.out] <;> rfl, rfl⟩
      · have hne : ¬ (y : Int) = x := by omega
        have HN2 : Hid (∀ t, t < j + 1 → xs[t]? ≠ some x) := Lib.hid fun t ht => by
          rcases Nat.lt_or_ge t j with h | h
          · exact HN.out t h
          · obtain rfl : t = j := by omega
            rw [hy]
            intro e
            injection e with e
            exact hyx e
        have HY := Lib.hid hy
        clear hy hyx
        go_wp2
        go_round
        case rel => exact ⟨j + 1, hlt, by go_num, HN2⟩
        case measure => simp [intOf]; omega
    · obtain rfl : j = k := by omega
      have E : Hid (ixI xs x = -1) := Lib.hid (ixI_out fun hm => by
        have h1 := ixN_at hm
        have h2 := (List.getElem?_eq_some_iff.1 h1).1
        exact HN.out _ (by have := HK.out; omega) h1)
      go_wp2
      go_ret
      exact ⟨by rw [E.out] <;> rfl, rfl⟩
end

/-- The document's lists, as a value. -/
def xv (hb ob cp : Nat) : Value := .agg #[.slice (some ⟨hb, 0, none⟩) 3 3, .slice (some ⟨ob, 0, none⟩) 3 cp]
/-- The document's lists of the three heads: the row of heads in block hb, the lists' row in block ob. -/
structure Xr (w : World) (B : Bx) (hb ob cp : Nat) (A : Nat → Option Addr) (c : Nat → Nat) (L : Nat → List Nat) : Prop where
  hB : B.b ≤ hb ∧ hb ≠ B.t
  hl : hb < w.heap.size
  hc : ∀ i, i < 3 → w.cell? ⟨hb, i, none⟩ = some (.int .i64 (hdN i : Nat))
  oB : B.b ≤ ob ∧ ob ≠ B.t
  ol : ob < w.heap.size
  oc : ∀ i, i < 3 → w.cell? ⟨ob, i, none⟩ = some (.slice (A i) (L (hdN i)).length (c i))
  sx : ∀ i, i < 3 → Sx w B (A i) (L (hdN i))
  cap : ∀ i, i < 3 → (L (hdN i)).length ≤ c i ∧ (A i = none → c i = 0) ∧ (L (hdN i)).length ≤ 14
  cp : 3 ≤ cp
section
variable {w w' : World} {B : Bx} {hb ob cp : Nat} {A : Nat → Option Addr} {c : Nat → Nat} {L : Nat → List Nat}
theorem Xr.keep (x : Xr w B hb ob cp A c L) (h : Kx B w w') : Xr w' B hb ob cp A c L :=
  ⟨x.hB, Nat.lt_of_lt_of_le x.hl h.1, fun i hi => (h.cell x.hB x.hl).trans (x.hc i hi), x.oB, Nat.lt_of_lt_of_le x.ol h.1, fun i hi => (h.cell x.oB x.ol).trans (x.oc i hi), fun i hi => (x.sx i hi).keep h, x.cap, x.cp⟩
theorem Xr.below (x : Xr w B hb ob cp A c L) (h : Below w.heap.size w w') : Xr w' B hb ob cp A c L := x.keep (Kx.below h)
/-- The row of heads. -/
theorem Xr.heads (x : Xr w B hb ob cp A c L) : Sx w B (some ⟨hb, 0, none⟩) H3 := fun j y hy => by
  have hj : j < 3 := (List.getElem?_eq_some_iff.1 hy).1
  refine ⟨hb, 0, rfl, x.hB, x.hl, ?_⟩
  rw [Nat.zero_add, x.hc j hj]
  have : y = hdN j := by
    have h3 : j = 0 ∨ j = 1 ∨ j = 2 := by omega
    rcases h3 with rfl | rfl | rfl <;> (simp [H3] at hy; rw [← hy]; rfl)
  rw [this]
theorem h3_hd {h : Nat} (hh : h ∈ H3) : ∃ i, i < 3 ∧ h = hdN i ∧ ixI H3 h = (i : Nat) := by
  rcases h3_cases hh with rfl | rfl | rfl
  · exact ⟨0, by decide, rfl, by decide⟩
  · exact ⟨1, by decide, rfl, by decide⟩
  · exact ⟨2, by decide, rfl, by decide⟩
set_option maxRecDepth 100000 in
theorem rof_any (x : Xr w B hb ob cp A c L) {i : Nat} (hi : i < 3) (h : Nat) (hh : h = hdN i) :
    Calls Tryd.prog 34 #[xv hb ob cp, .int .i64 h] w fun e w' => e = .returned (.slice (A i) (L (hdN i)).length (c i)) ∧ Below w.heap.size w w' := by
  subst hh
  have hcp := x.cp
  obtain ⟨i', hi', e1, e2⟩ := h3_hd (hdN_in i)
  have hii : i' = i := by unfold hdN at e1; omega
  subst hii
  obtain ⟨w1, hw1⟩ : ∃ w1, w1 = w.alloc (.cells #[.slice (some ⟨hb, 0, none⟩) 3 3, .slice (some ⟨ob, 0, none⟩) 3 cp] 29) := ⟨_, rfl⟩
  have FR : Hid (Below w.heap.size w w1) := Lib.hid (by rw [hw1]; exact below_one w _)
  have X1 := Lib.hid (x.below FR.out)
  have c1 := X1.out.oc i' hi'
  have IX : Hid (∀ w', Kx B w w' → Calls Tryd.prog 38 #[.slice (some ⟨hb, 0, none⟩) 3 3, .int .i64 (hdN i' : Nat)] w' fun e w'' => e = .returned (.int .i64 (i' : Nat)) ∧ w' = w'') := Lib.hid fun w' hk => by
    have := rindex_any (w := w') 3 3 (hdN i') (x.keep hk).heads rfl (by decide)
    rwa [e2] at this
  have HW := Lib.hid hw1
  have hi3 : (i' : Int) < 3 := by omega
  clear x hw1 e1 e2
  unfold xv
  go_enter Tryd.func34, Tryd.ntmps34
  go_wp2_with fail
  rw [← HW.out]
  refine (IX.out w1 (Kx.below FR.out)).mono ?_
  rintro e wd ⟨rfl, rfl⟩
  have k1 : w1.cell? ⟨w.heap.size, 1, none⟩ = some (.slice (some ⟨ob, 0, none⟩) 3 cp) := by rw [HW.out]; exact (Blk.new w 29 #[.slice (some ⟨hb, 0, none⟩) 3 3, .slice (some ⟨ob, 0, none⟩) 3 cp]).cell 1
  go_wp2
  go_ret
  exact ⟨rfl, FR.out⟩
set_option maxRecDepth 100000 in
theorem rof_none (x : Xr w B hb ob cp A c L) :
    Calls Tryd.prog 34 #[xv hb ob cp, .int .i64 0] w fun e w' => e = .returned (.slice none 0 0) ∧ Below w.heap.size w w' := by
  obtain ⟨w1, hw1⟩ : ∃ w1, w1 = w.alloc (.cells #[.slice (some ⟨hb, 0, none⟩) 3 3, .slice (some ⟨ob, 0, none⟩) 3 cp] 29) := ⟨_, rfl⟩
  have FR : Hid (Below w.heap.size w w1) := Lib.hid (by rw [hw1]; exact below_one w _)
  have IX : Hid (∀ w', Kx B w w' → Calls Tryd.prog 38 #[.slice (some ⟨hb, 0, none⟩) 3 3, .int .i64 0] w' fun e w'' => e = .returned (.int .i64 (-1)) ∧ w' = w'') := Lib.hid fun w' hk => by
    have := rindex_any (w := w') 3 3 0 (x.keep hk).heads rfl (by decide)
    rwa [show ixI H3 0 = -1 from by decide] at this
  have HW := Lib.hid hw1
  clear x hw1
  unfold xv
  go_enter Tryd.func34, Tryd.ntmps34
  go_wp2_with fail
  rw [← HW.out]
  refine (IX.out w1 (Kx.below FR.out)).mono ?_
  rintro e wd ⟨rfl, rfl⟩
  go_wp2
  go_ret
  exact ⟨rfl, FR.out⟩
end
end Go.Proofs.YthklbkgehfgdgaaDoor
