/- The document's lists in memory: Owner, End, Next. No condition but that its blocks are known. -/
import Derived.Test.YthklbkgehfgdgaaDoorChRIx
namespace Go.Proofs.YthklbkgehfgdgaaDoor
open Go.RowKit

theorem ow_first {L : Nat → List Nat} {x : Nat} : ∀ {i : Nat}, i < 3 → (∀ j, j < i → x ∉ L (hdN j)) → x ∈ L (hdN i) → ow L x = hdN i := by
  intro i hi hn hm
  have h3 : i = 0 ∨ i = 1 ∨ i = 2 := by omega
  unfold ow
  rcases h3 with rfl | rfl | rfl
  · rw [if_pos (show x ∈ L 8 from hm)]; rfl
  · rw [if_neg (show x ∉ L 8 from hn 0 (by decide)), if_pos (show x ∈ L 16 from hm)]; rfl
  · rw [if_neg (show x ∉ L 8 from hn 0 (by decide)), if_neg (show x ∉ L 16 from hn 1 (by decide)), if_pos (show x ∈ L 24 from hm)]; rfl
theorem ow_nowhere {L : Nat → List Nat} {x : Nat} (h : ∀ j, j < 3 → x ∉ L (hdN j)) : ow L x = 0 := ow_zero fun k hk => by
  rcases h3_cases hk with rfl | rfl | rfl
  · exact h 0 (by decide)
  · exact h 1 (by decide)
  · exact h 2 (by decide)
/-- A box of the document's lists. -/
abbrev X2 (w : World) (b hb ob cp : Nat) : Prop := w.cell? ⟨b, 0, none⟩ = some (.slice (some ⟨hb, 0, none⟩) 3 3) ∧ w.cell? ⟨b, 1, none⟩ = some (.slice (some ⟨ob, 0, none⟩) 3 cp)
section
variable {w w' : World} {B : Bx} {hb ob cp : Nat} {A : Nat → Option Addr} {c : Nat → Nat} {L : Nat → List Nat}
theorem x2_new (w : World) (hb ob cp : Nat) : X2 (w.alloc (.cells #[.slice (some ⟨hb, 0, none⟩) 3 3, .slice (some ⟨ob, 0, none⟩) 3 cp] 29)) w.heap.size hb ob cp :=
  ⟨(Blk.new w 29 #[.slice (some ⟨hb, 0, none⟩) 3 3, .slice (some ⟨ob, 0, none⟩) 3 cp]).cell 0, (Blk.new w 29 #[.slice (some ⟨hb, 0, none⟩) 3 3, .slice (some ⟨ob, 0, none⟩) 3 cp]).cell 1⟩
theorem x2_keep {b : Nat} (x : X2 w b hb ob cp) (hb' : b < w.heap.size) (h : Below w.heap.size w w') : X2 w' b hb ob cp :=
  ⟨(h.cell (p := ⟨b, 0, none⟩) hb').trans x.1, (h.cell (p := ⟨b, 1, none⟩) hb').trans x.2⟩
set_option maxRecDepth 100000 in
theorem rowner_any (x : Xr w B hb ob cp A c L) (n : Nat) :
    Calls Tryd.prog 33 #[xv hb ob cp, .int .i64 n] w fun e w' => e = .returned (.int .i64 (ow L n : Nat)) ∧ Below w.heap.size w w' := by
  have hcp := x.cp
  obtain ⟨w1, hw1⟩ : ∃ w1, w1 = w.alloc (.cells #[.slice (some ⟨hb, 0, none⟩) 3 3, .slice (some ⟨ob, 0, none⟩) 3 cp] 29) := ⟨_, rfl⟩
  obtain ⟨b, hbe⟩ : ∃ b, b = w.heap.size := ⟨_, rfl⟩
  have FR : Hid (Below w.heap.size w w1) := Lib.hid (by rw [hw1]; exact below_one w _)
  have X1 := Lib.hid (x.below FR.out)
  have C2 : Hid (X2 w1 b hb ob cp) := Lib.hid (by rw [hw1, hbe]; exact x2_new w hb ob cp)
  have HW := Lib.hid hw1
  have HBE := Lib.hid hbe
  clear x hw1 hbe
  unfold xv
  go_enter Tryd.func33, Tryd.ntmps33
  go_wp2_with fail
  rw [← HBE.out, ← HW.out]
  obtain ⟨k0, k1⟩ := C2.out
  go_loop [5] (fun v => ∃ i : Nat, i ≤ 3 ∧ v = .int .i64 i ∧ Hid (∀ j, j < i → n ∉ L (hdN j))) (fun v => 3 - (intOf v).toNat)
  case atStart => exact ⟨0, Nat.zero_le _, rfl, Lib.hid fun j hj => absurd hj (by omega)⟩
  case round =>
    obtain ⟨i, hi, rfl, HN⟩ := hrel
    by_cases hlt : i < 3
    · have hi3 : (i : Int) < 3 := by omega
      have c1 := X1.out.oc i hlt
      have c0 := X1.out.hc i hlt
      obtain ⟨_, _, hl14⟩ := X1.out.cap i hlt
      have IX : Hid (Calls Tryd.prog 38 #[.slice (A i) (L (hdN i)).length (c i), .int .i64 (n : Nat)] w1 fun e w'' => e = .returned (.int .i64 (ixI (L (hdN i)) n)) ∧ w1 = w'') := Lib.hid (rindex_any (c i) (L (hdN i)).length n (X1.out.sx i hlt) rfl (by omega))
      by_cases hm : n ∈ L (hdN i)
      · have E := Lib.hid (ow_first hlt HN.out hm)
        have IX2 := IX.out
        rw [ixI_in hm] at IX2
        clear hm IX
        have IX := Lib.hid IX2
        clear IX2
        go_wp2_with (go_at_call 38; refine IX.out.mono ?_; rintro e wd ⟨rfl, rfl⟩)
        go_ret
        exact ⟨by rw [E.out] <;> rfl, FR.out⟩
      · have IX2 := IX.out
        rw [ixI_out hm] at IX2
        have HN2 : Hid (∀ j, j < i + 1 → n ∉ L (hdN j)) := Lib.hid fun j hj => by
          rcases Nat.lt_or_ge j i with h | h
          · exact HN.out j h
          · obtain rfl : j = i := by omega
            exact hm
        clear hm IX
        have IX := Lib.hid IX2
        clear IX2
        go_wp2_with (go_at_call 38; refine IX.out.mono ?_; rintro e wd ⟨rfl, rfl⟩)
        go_round
        case rel => exact ⟨i + 1, hlt, by go_num, HN2⟩
        case measure => simp [intOf]; omega
    · obtain rfl : i = 3 := by omega
      have E := Lib.hid (ow_nowhere HN.out)
      go_wp2
      go_ret
      exact ⟨by rw [E.out] <;> rfl, FR.out⟩
set_option maxRecDepth 100000 in
theorem rend_any (x : Xr w B hb ob cp A c L) (h : Nat) (hh : h ∈ H3) (d : Bool) :
    Calls Tryd.prog 37 #[xv hb ob cp, .int .i64 h, .bool d] w fun e w' => e = .returned (.int .i64 (en L h d : Nat)) ∧ Below w.heap.size w w' := by
  obtain ⟨i, hi, hhi, _⟩ := h3_hd hh
  have hcp := x.cp
  have hl14 := (x.cap i hi).2.2
  obtain ⟨w1, hw1⟩ : ∃ w1, w1 = w.alloc (.cells #[.slice (some ⟨hb, 0, none⟩) 3 3, .slice (some ⟨ob, 0, none⟩) 3 cp] 29) := ⟨_, rfl⟩
  have FR : Hid (Below w.heap.size w w1) := Lib.hid (by rw [hw1]; exact below_one w _)
  have X1 := Lib.hid (x.below FR.out)
  obtain ⟨l, hl⟩ : ∃ l, l = L (hdN i) := ⟨_, rfl⟩
  obtain ⟨k, hk⟩ : ∃ k, k = l.length := ⟨_, rfl⟩
  have OF : Hid (Calls Tryd.prog 34 #[.agg #[.slice (some ⟨hb, 0, none⟩) 3 3, .slice (some ⟨ob, 0, none⟩) 3 cp], .int .i64 (h : Nat)] w1 fun e w'' => e = .returned (.slice (A i) k (c i)) ∧ Below w1.heap.size w1 w'') := Lib.hid (by
    have := rof_any X1.out hi h hhi
    rwa [← hl, ← hk] at this)
  have S1 : Hid (Sx w1 B (A i) l) := Lib.hid (by rw [hl]; exact X1.out.sx i hi)
  have EN : Hid (en L h d = if d then (l[0]?).getD 0 else bkv l k) := Lib.hid (by
    subst hhi
    rw [hk, hl]
    cases d
    · rw [en_bkv]; rfl
    · unfold en; rw [show dl true (L (hdN i)) = L (hdN i) from rfl, head_at]; rfl)
  have HK := Lib.hid hk
  have HW := Lib.hid hw1
  have hk14 : k ≤ 14 := by rw [hk, hl]; exact hl14
  clear x hw1 hl hk hl14 hhi
  unfold xv
  by_cases hk0 : k = 0
  · subst hk0
    have hnil : l = [] := List.length_eq_zero_iff.1 HK.out.symm
    have E0 : Hid (en L h d = 0) := Lib.hid (by rw [EN.out, hnil]; cases d <;> rfl)
    rw [E0.out]
    clear hnil
    go_enter Tryd.func37, Tryd.ntmps37
    go_wp2_with fail
    rw [← HW.out]
    refine OF.out.mono ?_
    rintro e wd ⟨rfl, hbc⟩
    have FR := Lib.hid (FR.out.trans (hbc.mono FR.out.size))
    clear hbc
    go_wp2
    go_ret
    exact ⟨rfl, FR.out⟩
  · cases d with
    | true =>
      obtain ⟨y, hy⟩ : ∃ y, l[0]? = some y := ⟨_, List.getElem?_eq_getElem (by have := HK.out; omega)⟩
      have E0 : Hid (en L h true = y) := Lib.hid (by rw [EN.out, hy]; rfl)
      rw [E0.out]
      have HY := Lib.hid hy
      clear hy
      go_enter Tryd.func37, Tryd.ntmps37
      go_wp2_with fail
      rw [← HW.out]
      refine OF.out.mono ?_
      rintro e wd ⟨rfl, hbc⟩
      have FR := Lib.hid (FR.out.trans (hbc.mono FR.out.size))
      obtain ⟨bb, oo, ea, _, _, cc⟩ := (S1.out.keep (Kx.below hbc)) 0 y HY.out
      rw [ea]
      rw [Nat.add_zero] at cc
      clear hbc ea
      have hki : (0 : Int) < (k : Int) := by omega
      go_wp2
      go_ret
      exact ⟨rfl, FR.out⟩
    | false =>
      obtain ⟨j, rfl⟩ : ∃ j, k = j + 1 := ⟨k - 1, by omega⟩
      obtain ⟨y, hy⟩ : ∃ y, l[j]? = some y := ⟨_, List.getElem?_eq_getElem (by have := HK.out; omega)⟩
      have E0 : Hid (en L h false = y) := Lib.hid (by rw [EN.out, bkv_succ, hy]; rfl)
      rw [E0.out]
      have HY := Lib.hid hy
      clear hy
      go_enter Tryd.func37, Tryd.ntmps37
      go_wp2_with fail
      rw [← HW.out]
      refine OF.out.mono ?_
      rintro e wd ⟨rfl, hbc⟩
      have FR := Lib.hid (FR.out.trans (hbc.mono FR.out.size))
      obtain ⟨bb, oo, ea, _, _, cc⟩ := (S1.out.keep (Kx.below hbc)) j y HY.out
      rw [ea]
      clear hbc ea
      have hki : (j : Int) < (j : Int) + 1 := by omega
      go_wp2
      go_ret
      exact ⟨rfl, FR.out⟩
end
end Go.Proofs.YthklbkgehfgdgaaDoor
