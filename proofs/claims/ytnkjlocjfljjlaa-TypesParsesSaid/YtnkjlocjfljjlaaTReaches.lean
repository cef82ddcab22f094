/- The contract of reachesItself. Condition: the types can be read, each pointer has a target. -/
import Derived.Test.YtnkjlocjfljjlaaTReach
import Derived.Test.YtnkjlocjfljjlaaTLayout
import Derived.Maps.OwnSet
import Derived.Maps.OwnOps
import Derived.Deep.LoopGhost
namespace Go.Proofs.Ytnkjlocjfljjlaa
open Go.RowKit Go.Maps
set_option maxRecDepth 100000
set_option maxHeartbeats 4000000

theorem lawI : Keyed Try.prog 3 := int_keyed Try.underlying3
theorem zeroU (w : World) : (zeroValue 83).run Try.prog w = .ok (.agg #[]) w := by kernel_rfl
def kl (x : Nat) : Lit := .int .i64 (x : Int)
theorem kl_of {x : Nat} (h : x < 1000) : keyOf Try.prog 3 (.int .i64 (x : Int)) = some (kl x) := keyOf_int_mk Try.underlying3 (WalkArith.wf_i64 (by omega))
def Sd (seen : List Nat) : DataW Unit := setOf (.agg []) (seen.map kl)
theorem Sd_snoc (seen : List Nat) (x : Nat) : Sd (seen ++ [x]) = (Sd seen).put (kl x) (.agg []) := by
  unfold Sd
  rw [List.map_append, List.map_cons, List.map_nil, setOf_snoc]
theorem Sd_has (seen : List Nat) (x : Nat) : Maps.has (Sd seen) (kl x) = decide (x ∈ seen) := by
  unfold Sd
  rw [has_setOf _ _ _ (fun y hy => by
    obtain ⟨a, _, rfl⟩ := List.mem_map.1 hy
    trivial)]
  rw [List.any_map]
  induction seen with
  | nil => rfl
  | cons a r ih =>
    rw [List.any_cons, ih]
    by_cases e : x = a
    · subst e
      simp [kl, Lit.sameKey]
    · simp [kl, Lit.sameKey, e]
      omega
theorem om_below {w w' : World} {P : Program} {k : TypeId} {b n B : Nat} {R : Value → Option (DataW Unit × List MemPlace)} {D : DataW Unit} (h : w.ownsMap P k R b n D) (hb : Below B w w') (hB : b < B) : w'.ownsMap P k R b n D := by
  obtain ⟨es, clock, h1, rest⟩ := h
  exact ⟨es, clock, (hb.block b hB).trans h1, rest⟩
theorem Oi.grown {w w' : World} {B : Nat} {v : Value} {l : List Int} {row : Option Nat} (h : Oi w B v l) (hg : w.grownBy w' row) (hr : ∀ r, row = some r → r < B) : Oi w' B v l := by
  refine ⟨h.1, ?_⟩
  rcases h.2 with h1 | ⟨g, cap, cur, h1, h2, h3, rest⟩
  · exact .inl h1
  · refine .inr ⟨g, cap, cur, h1, h2, ?_, rest⟩
    rw [← h3]
    refine hg.block g (Array.getElem?_eq_some_iff.1 h3).1 (fun e => ?_)
    have := hr g e.symm
    omega
theorem Oi.last {w : World} {B : Nat} {v : Value} {wk : List Nat} {y : Nat} (h : Oi w B v (zs (wk ++ [y]))) :
    ∃ g cap, v = .slice (some ⟨g, 0, none⟩) (wk.length + 1) cap ∧ w.cell? ⟨g, wk.length, none⟩ = some (.int .i64 (y : Int)) ∧ B ≤ g ∧ g < w.heap.size ∧ wk.length + 1 ≤ cap ∧ cap ≤ 9223372036854775807 ∧ Oi w B (.slice (some ⟨g, 0, none⟩) wk.length cap) (zs wk) := by
  have hl : (zs (wk ++ [y])).length = wk.length + 1 := by simp [zs]
  rcases h.2 with ⟨_, h2⟩ | ⟨g, cap, cur, h1, hb, hg, hle, hmax, hsz, htk⟩
  · omega
  · rw [hl] at h1 hle htk
    have hc := h.cells (g := g) (by rw [h1]; rfl) wk.length (.int .i64 (y : Int)) (by simp [ic, zs])
    rw [addr_add, Nat.zero_add] at hc
    refine ⟨g, cap, h1, hc, hb, (Array.getElem?_eq_some_iff.1 hg).1, hle, by simpa [maxLen] using hmax, ?_⟩
    have hl2 : (zs wk).length = wk.length := by simp [zs]
    unfold Oi
    rw [hl2]
    refine ⟨by simp [ic, zs], .inr ⟨g, cap, cur, rfl, hb, hg, by omega, hmax, hsz, ?_⟩⟩
    rw [Nat.mul_one] at htk ⊢
    have := congrArg (List.take wk.length) htk
    rw [List.take_take, Nat.min_eq_left (by omega)] at this
    rw [this]
    simp [ic, zs]
theorem Oi.zero {w : World} {B : Nat} {v : Value} (h : Oi w B v (zs [])) : ∃ A cap, v = .slice A 0 cap := by
  rcases h.2 with ⟨h1, _⟩ | ⟨g, cap, cur, h1, _⟩
  · exact ⟨none, 0, h1⟩
  · exact ⟨_, cap, h1⟩
section
variable {w : World}
theorem reaches_any (A : Option Addr) (n cap : Nat) (ts : List Ty) (h : Lt w A n cap ts) (i : Nat) (hi : i < n) (hn : n ≤ 32) (hp : Pok ts) :
    Calls Try.prog 25 #[.slice A n cap, .int .i64 i] w fun e w' => e = .returned (.bool (reach ts i)) ∧ Below w.heap.size w w' := by
  have hle := h.le
  have hmx := h.max
  have HN := Lib.hid h.len
  have H := Lib.hid h
  have HP := Lib.hid hp
  clear h hp
  have hmm := @run_makeMap Try.prog
  go_enter Try.func25, Try.ntmps25
  go_wp2_with fail
  go_loopg [6] (2 * n + 1) (fun g u wr => ∃ seen wk : List Nat, 2 * (n - seen.length) + wk.length ≤ g ∧ Hid (Dfs ts i seen wk) ∧ Hid (wr.ownsMap Try.prog 3 (unitElem (H := Unit)) w.heap.size seen.length (Sd seen)) ∧ Hid (Oi wr (w.heap.size + 1) u (zs wk)) ∧ Hid (Below w.heap.size w wr) ∧ w.heap.size + 1 ≤ wr.heap.size)
  case atStart =>
    refine ⟨[], [i], by simp, Dfs.start ts i, ?_, ?_, ?_, by simp⟩
    · show World.ownsMap _ _ _ _ _ _ _
      exact (World.ownsMap_made w Try.prog 3 (unitElem (H := Unit))).alloc _
    · show Oi _ _ _ _
      refine ⟨rfl, .inr ⟨w.heap.size + 1, 1, #[.int .i64 (i : Int)], rfl, Nat.le_refl _, ?_, Nat.le_refl _, by unfold maxLen; omega, rfl, rfl⟩⟩
      have := heap_alloc_new (w.alloc (.map #[] 0)) (.cells #[.int .i64 (i : Int)] 3)
      simpa using this
    · show Below _ _ _
      (repeat' (first | exact Below.refl _ _ | assumption | (refine Below.alloc ?_ (by (try simp) <;> omega) _)))
  case round =>
    obtain ⟨seen, wk, hg, HD, HM, HO, HW, hws⟩ := hrel
    have HSL := Lib.hid (nodup_le ts.length seen HD.out.nd HD.out.lt)
    have hsl : seen.length ≤ n := by rw [← HN.out]; exact HSL.out
    rcases List.eq_nil_or_concat wk with rfl | ⟨wk', y, hwk⟩
    · obtain ⟨A0, cap0, rfl⟩ := HO.out.zero
      have HR := Lib.hid HD.out.fin
      have HH := Lib.hid (Sd_has seen i)
      have HK := Lib.hid (kl_of (x := i) (by omega))
      go_wp2_with (at_lookup; refine wpList_lookup_own_unit _ rfl _ _ 82 rfl 3 83 lawI Try.underlying82 (zeroU _) w.heap.size seen.length (Sd seen) rfl HM.out _ _ rfl HK.out ?_; rw [HH.out])
      go_ret
      rw [HR.out]
      exact ⟨rfl, HW.out.alloc (by omega) _⟩
    · rw [List.concat_eq_append] at hwk
      subst hwk
      obtain ⟨gb, cp, rfl, hcy, hgb1, hgb2, hcp1, hcp2, ho⟩ := HO.out.last
      have HO2 := Lib.hid ho
      clear ho
      have hy : y < n := by
        rcases HD.out.hwk y (by simp) with h1 | h1
        · omega
        · rw [← HN.out]; exact HD.out.lt y h1
      obtain ⟨b, o, t, FA, fk, fc, rfl, hu, hnm, hb, c0, c1, c2, c3, hf⟩ := H.out.at y hy
      obtain ⟨tn, tv, tr, fs⟩ := t
      simp only at c0 c1 c2 hf
      replace c0 := (HW.out.cell (p := ⟨b, o + y * 4, none⟩) hb).trans c0
      replace c1 := (HW.out.cell (p := ⟨b, o + y * 4 + 1, none⟩) hb).trans c1
      replace c2 := (HW.out.cell (p := ⟨b, o + y * 4 + 2, none⟩) hb).trans c2
      replace c3 := (HW.out.cell (p := ⟨b, o + y * 4 + 3, none⟩) hb).trans c3
      have hfl := hf.out.le
      have hfm := hf.out.max
      have FL := Lib.hid hf.out.len
      have DI := Lib.hid (HD.out.pop fs)
      generalize hL : wk'.length = L at *
      have HL := Lib.hid hL
      have hL0 : (((L + 1 : Nat) : Int) - 1) = (L : Int) := by omega
      simp at hg
      have hyn : (y : Int) < (n : Int) := by omega
      clear hL
      go_wp2_with fail
      go_loopw [6, 37] (fun u k wr2 => ∃ (m : Nat) (seen wk : List Nat), m ≤ fk ∧ k = .int .i64 m ∧ 2 * (n - seen.length) + wk.length + 1 ≤ gk ∧ seen.length ≤ n ∧ wk.length ≤ n ∧ Hid (Dfi ts i y fs m seen wk) ∧ Hid (wr2.ownsMap Try.prog 3 (unitElem (H := Unit)) w.heap.size seen.length (Sd seen)) ∧ Hid (Oi wr2 (w.heap.size + 1) u (zs wk)) ∧ Hid (Below w.heap.size w wr2) ∧ w.heap.size + 1 ≤ wr2.heap.size) (fun _ k _ => fk - (intOf k).toNat)
      case atStart =>
        refine ⟨0, seen, wk', Nat.zero_le _, rfl, by have := HL.out; omega, hsl, ?_, DI.out, HM.out.alloc _, HO2.out.alloc _, HW.out.alloc (by omega) _, by simp; omega⟩
        have h1 := DI.out.len
        omega
      case round =>
        clear HD HM HO HW hws hg HSL hsl HO2 DI hcy hgb1 hgb2 hcp1 hcp2 c0 c1 c2 c3
        obtain ⟨m, seen, wk, hm, rfl, hg, hsl, hwl, DI, HM, HO, HW, hws⟩ := hrel
        by_cases hlt : m < fk
        · obtain ⟨fb, fo, f, rfl, hf', hok, hb', c0, c1, c2, c3, c4⟩ := (hf.out.below HW.out (Nat.le_refl _)).at m hlt
          have hmi : (m : Int) < (fk : Int) := by omega
          by_cases hk2 : f.kind = 2
          · obtain ⟨x, hx, hxn⟩ := HP.out _ (List.mem_of_getElem? hu.out) f (List.mem_of_getElem? hf'.out) hk2
            rw [HN.out] at hxn
            have HK2 := Lib.hid hk2
            have HX := Lib.hid hx
            obtain ⟨kd, ln, ty, lk, ky⟩ := f
            simp only at c0 c1 c2 c3 c4 hk2 hx
            subst hk2 hx
            clear hok
            have HKEY := Lib.hid (kl_of (x := x) (by omega))
            have HH := Lib.hid (Sd_has seen x)
            by_cases hs : x ∈ seen
            · have HH2 := Lib.hid (HH.out.trans (decide_eq_true hs))
              have DI2 := Lib.hid (DI.out.skip hf'.out fun _ => ⟨x, hs, rfl⟩)
              clear hs
              go_wp2_with (at_lookup; refine wpList_lookup_own_unit _ rfl _ _ 82 rfl 3 83 lawI Try.underlying82 (zeroU _) w.heap.size seen.length (Sd seen) rfl (HM.out.alloc _) _ _ rfl HKEY.out ?_; rw [HH2.out])
              go_roundw
              case rel => exact ⟨m + 1, seen, wk, by omega, by go_num, hg, hsl, hwl, DI2.out, (HM.out.alloc _).alloc _, (HO.out.alloc _).alloc _, (HW.out.alloc (by omega) _).alloc (by simp; omega) _, by simp; omega⟩
              case measure => simp [intOf]; omega
            · have HH2 := Lib.hid (HH.out.trans (decide_eq_false hs))
              have DI2 := Lib.hid (DI.out.add (t := ⟨tn, tv, tr, fs⟩) hu.out hf'.out rfl rfl (by rw [HN.out]; exact hxn) hs)
              have hs1 : seen.length + 1 ≤ n := by
                have := nodup_le ts.length _ DI2.out.nd DI2.out.lt
                rw [HN.out] at this
                simpa using this
              have HZ := Lib.hid (show (zs wk).length ≤ 100000 by rw [zs_len]; omega)
              clear hs
              go_wp2_with (first
                | (at_lookup; refine wpList_lookup_own_unit _ rfl _ _ 82 rfl 3 83 lawI Try.underlying82 (zeroU _) w.heap.size seen.length (Sd seen) rfl (HM.out.alloc _) _ _ rfl HKEY.out ?_; rw [HH2.out])
                | (at_mapUpdate; refine wpList_mapUpdate_own _ rfl _ _ _ 82 rfl 3 83 lawI Try.underlying82 (unitElem (H := Unit)) w.heap.size seen.length (Sd seen) rfl ((HM.out.alloc _).alloc _) (by unfold maxLen; omega) _ _ _ rfl rfl HKEY.out _ [] unitElem_mk ?_; intro w1 hown1 hgrow1; have hsz1 := hgrow1.size; simp at hsz1; have g0 := hgrow1.cell_far ⟨wr.heap.size, 2, none⟩ (by simp <;> omega) (by simp <;> omega); simp at g0; have HM1 := Lib.hid hown1; have HO1 := Lib.hid (((HO.out.alloc _).alloc _).grown hgrow1 (fun r e => by cases e; omega)); have HW1 := Lib.hid (((HW.out.alloc (by omega) _).alloc (by simp; omega) _).grown hgrow1 (by simp; omega) (fun j hj => by cases hj; exact Nat.le_refl _)); clear hown1 hgrow1)
                | (at_builtin; refine wpList_iapp rfl _ _ rfl (w.heap.size + 1) _ (zs wk) rfl HO1.out (x : Int) rfl HZ.out (by omega) ?_; intro v4 w4 h4 h5; have HO4 := Lib.hid h4; have HM4 := Lib.hid (om_below HM1.out h5 (Nat.lt_succ_self _)); have HW4 := Lib.hid (HW1.out.trans (h5.mono (Nat.le_succ _))); have hsz4 := h5.size; clear h4 h5))
              go_roundw
              case rel =>
                have hdl := DI2.out.len
                simp at hdl
                refine ⟨m + 1, seen ++ [x], wk ++ [x], by omega, by go_num, by simp; omega, by simp; omega, by simp; omega, DI2.out, ?_, ?_, HW4.out, by omega⟩
                · show World.ownsMap _ _ _ _ _ _ _
                  have := HM4.out
                  rw [← Sd_snoc] at this
                  rw [List.length_append]
                  exact this
                · show Oi _ _ _ _
                  rw [zs_app]
                  exact HO4.out
              case measure => simp [intOf]; omega
          · have hk2' : (f.kind != 2) = true := by simp [hk2]
            have DI2 := Lib.hid (DI.out.skip hf'.out fun e => absurd e hk2)
            go_wp2_with fail
            go_roundw
            case rel => exact ⟨m + 1, seen, wk, by omega, by go_num, hg, hsl, hwl, DI2.out, HM.out.alloc _, HO.out.alloc _, HW.out.alloc (by omega) _, by simp; omega⟩
            case measure => simp [intOf]; omega
        · obtain rfl : m = fk := by omega
          have HD := Lib.hid (DI.out.done (t := ⟨tn, tv, tr, fs⟩) hu.out (Nat.le_of_eq FL.out))
          go_wp2_with fail
          go_roundg (gk - 1)
          case measure => omega
          case rel => exact ⟨seen, wk, by omega, HD.out, HM.out, HO.out, HW.out, hws⟩
end
end Go.Proofs.Ytnkjlocjfljjlaa
