/- The contract of the slab's push. Conditions: the table of widths lies in its block; the slab's blocks are known. -/
import Derived.Test.YthblpnnbkjhmhaaDoorSSmall
namespace Go.Proofs.YthblpnnbkjhmhaaDoor
open Go.RowKit
open Pool (num cnt upd Pl)

theorem Tab.drew {w : World} (h : Tab w) (m : Nat) : Tab (w.drewN m) := h
theorem Cl.drew {w : World} (h : Cl w) (m : Nat) : Cl (w.drewN m) := h
theorem Tab.fr {a b c : Nat} {w w' : World} (h : Tab w) (ho : Fr a b c w w') (hw : 1 < w.heap.size) (ha : 1 < a) (hb : 1 < b) (hc : 1 < c) : Tab w' := by
  obtain ⟨t, fr, e⟩ := h
  exact ⟨t, fr, (ho.block _ hw (by omega) (by omega) (by omega)).trans e⟩
theorem Tab.drew1 {w : World} (h : Tab w) : Tab w.drew := h
theorem Rw.drew1 {w : World} {L : Pt} {n : Nat} {q : Rp} {f : Nat → Int} {t : Nat → Bool} (h : Rw w L n q f t) : Rw w.drew L n q f t := h.same fun _ _ => rfl
theorem Fr.drew1 (a b c : Nat) (w : World) : Fr a b c w w.drew := ⟨rfl, rfl, rfl, Nat.le_refl _, fun _ _ _ _ _ => rfl⟩
section
variable {w : World} {L : Pt} {n : Nat} {q : Rp} {f : Nat → Int} {t : Nat → Bool}
set_option maxRecDepth 100000 in
theorem push_any (i a x : Nat) (hT : Tab w) (h : Rw w L n q f t) (hi : i < n) (hx : (q i).2.2 = x) (hx2 : x ≤ 65536) (ha : a + 8 ≤ 512 * n) :
    Calls Tryd.prog 38 #[.pointer (some ⟨L.p, 0, none⟩), .int .i64 i, .int .i64 a] w fun e w' => (∃ v, e = .returned v) ∧ Rw w' L n (rput q i ((q i).1, (q i).2.1, a)) (st f a x 8) t ∧ Fr L.ga L.pp L.gp w w' := by
  have hn := h.small
  have h0 := h.h0
  have h2 := h.h2
  have c2 := h.p2 i hi
  rw [hx] at c2
  have hw : IntKind.u64.wrap (x : Int) = x := by rw [IntKind.wrap_u64]; omega
  have HT := Lib.hid hT
  have H := Lib.hid h
  clear hT h
  go_enter Tryd.func38, Tryd.ntmps38
  go_wp2_with fail
  go_region_with (go_at_call 48; refine (store_ok L.pa L.ga (512 * n) f a 8 x HT.out.drew1 H.out.drew1.ar (by omega) rfl ha).mono ?_; rintro e w' ⟨rfl, hA, hO⟩; replace hA := Lib.hid hA; replace hO := Lib.hid hO)
  all_goals
    have hR := H.out.drew1.ofAr hO.out hA.out
    have d2 := hR.p2 i hi
    have fz := hR.fz (i * 3 + 2)
    have HR := Lib.hid hR
    have HF := Lib.hid ((Fr.drew1 L.ga L.pp L.gp w).trans (Fr.of_only hO.out (.inl rfl)))
    clear hR
    go_wp2
    go_end0
    exact ⟨⟨_, rfl⟩, HR.out.set2 i a, HF.out.trans (Fr.of_only (Only.setCellAt _ _ _ _) (.inr (.inr rfl)))⟩
end
end Go.Proofs.YthblpnnbkjhmhaaDoor
