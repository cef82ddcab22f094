/- The contract of tree's place over a tree's links: where a new leaf belongs. Conditions: the table of widths lies in its block; the arena's blocks are known; its bytes are a tree's links; keys lie beside the leaves. -/
import Derived.Test.YtiacclmapicmdaaDoorTrMove2
namespace Go.Proofs.YtiacclmapicmdaaDoor
open Go.RowKit

/-- Keys lie so far from the leaves, and no call of the program's turns them. -/
structure Ky (c : Cx) (dl : Int) (key : Nat → Nat) : Prop where
  at_ : ∀ j, c.N j → ∃ a : Nat, ((c.ad j : Nat) : Int) + dl = (a : Nat) ∧ a + 8 ≤ c.n ∧ ∀ f, KeepT c.rt c.ad c.N c.f0 f → ld f a 8 = (key j : Nat)
section
variable {c : Cx} {w w' : World} {s : Tr} {I : Nat → Bool}
theorem Td.load (t : Td c w s I) {a v : Nat} (ha : a + 8 ≤ c.n) (hv : ∀ f, KeepT c.rt c.ad c.N c.f0 f → ld f a 8 = (v : Nat)) :
    Calls Tryd.prog 26 #[.pointer (some ⟨c.p, 0, none⟩), .int .i64 (a : Nat), .int .i64 8] w fun e w' => e = .returned (.tuple #[.int .u64 (v : Nat), .int .i64 0]) ∧ w = w' := by
  obtain ⟨f, t⟩ := t
  have := load_ok c.p c.g c.n f a 8 t.aw.tab t.aw.ar (by decide) ha
  rw [hv f t.kp] at this
  exact this
set_option maxRecDepth 100000 in
set_option maxHeartbeats 4000000 in
theorem Td.placeOf (t : Td c w s I) {dl : Int} {key : Nat → Nat} (hk : Ky c dl key) {T0 : T} (h : At s T0 s.top 0) (hnt : T0.ns.Nodup) (hT : ∀ j, j ∈ T0.ns → c.N j) (k : Nat) (hlen : T0.ns.length < c.n) :
    Calls Tryd.prog 44 #[lv c.p, .int .i64 (c.rt : Nat), .int .u64 (key k : Nat), .int .i64 dl] w fun e w' => ∃ (p : Nat) (r : Bool), e = .returned (.tuple #[.int .i64 (c.ad p : Nat), .bool r]) ∧
      Rp s (way key k T0 []) .e 0 p ∧ (way key k T0 [] ≠ [] → r = side (way key k T0 [])) ∧ Below w.heap.size w w' := by
  have hn := t.pl.big
  have a0 : ((c.ad 0 : Nat) : Int) = 0 := by rw [t.pl.ad0]; rfl
  obtain ⟨w1, hw1⟩ : ∃ w1, w1 = w.alloc (.cells #[.pointer (some ⟨c.p, 0, none⟩)] 69) := ⟨_, rfl⟩
  obtain ⟨b, hbe⟩ : ∃ b, b = w.heap.size := ⟨_, rfl⟩
  have UC : Hid (Tb c w w1 b s I) := Lib.hid (by rw [hw1, hbe]; exact Tb.new t)
  have FR : Hid (Below w.heap.size w w1) := Lib.hid (by rw [hw1]; exact below_one w _)
  have HW := Lib.hid hw1
  have HBE := Lib.hid hbe
  clear hw1 hbe
  have HR : Hid (Rp s [] T0 s.top 0) := Lib.hid ⟨⟨rfl, rfl⟩, h, hnt, List.nodup_nil, fun _ _ h => by cases h⟩
  have HT := Lib.hid hT
  have HKY := Lib.hid hk
  have A0 := Lib.hid a0
  clear t h hnt hT hk a0
  go_enter Tryd.func44, Tryd.ntmps44
  go_wp2_with fail
  rw [← HBE.out, ← HW.out]
  have C1 := Lib.hid UC.out.cell
  have c1 := C1.out
  go_wp2_with (first
    | (go_at_call 34; (with_reducible refine (UC.out.td.root).mono ?_); rintro e wc ⟨rfl, hbc⟩; have FR := Lib.hid (FR.out.trans (hbc.mono FR.out.size)); have UC := Lib.hid (UC.out.below hbc); have C1 := Lib.hid UC.out.cell; (try clear c1); have c1 := C1.out; clear hbc)
    | (go_at_call 57; (with_reducible refine UC.out.td.len.mono ?_); rintro e wc ⟨rfl, rfl⟩))
  go_loopg [8, 9, 10, 19] T0.ns.length (fun gk v8 v9 v10 v19 wr => ∃ (i : Nat) (u : List Fr) (T1 : T) (x1 p1 : Nat) (r1 : Bool), v8 = .int .i64 (c.ad p1 : Nat) ∧ v9 = .bool r1 ∧ v10 = .int .i64 (c.ad x1 : Nat) ∧ v19 = .int .i64 (i : Nat) ∧ gk = T1.ns.length ∧ i + T1.ns.length ≤ T0.ns.length ∧ Hid (Rp s u T1 x1 p1) ∧ Hid (way key k T1 u = way key k T0 []) ∧ Hid (u ≠ [] → r1 = side u) ∧ Hid (∀ j, j ∈ T1.ns → c.N j) ∧ Hid (Tb c w wr b s I) ∧ Hid (Below w.heap.size w wr))
  case atStart => exact ⟨0, [], T0, s.top, 0, false, by rw [A0.out], rfl, rfl, rfl, rfl, by omega, HR, Lib.hid rfl, Lib.hid (fun h => absurd rfl h), HT, UC, FR⟩
  case round =>
    obtain ⟨i, u, T1, x1, p1, r1, rfl, rfl, rfl, rfl, hgk, hi, hR, hW, hS, hM, hU, hB⟩ := hrel
    have UC := hU
    have FR := hB
    have C1 := Lib.hid UC.out.cell
    clear c1
    have c1 := C1.out
    have hlt : (i : Int) < c.n := by omega
    cases T1 with
    | e =>
      obtain rfl : x1 = 0 := hR.out.at_
      have a0 := A0.out
      go_wp2
      go_ret2
      have hw : way key k .e u = u := rfl
      refine ⟨p1, r1, rfl, ?_, ?_, FR.out⟩
      · rw [← hW.out, hw]; exact hR.out
      · rw [← hW.out, hw]; exact hS.out
    | n cc l j r =>
      have hj : c.N j := hM.out j (by simp [T.ns])
      obtain ⟨rfl, _, _, _, _, _⟩ := hR.out.at_
      have hjN := Lib.hid hj
      obtain ⟨a, ha1, ha2, ha3⟩ := HKY.out.at_ x1 hj
      have hx0 : ¬ ((c.ad x1 : Nat) : Int) = 0 := fun e => (hR.out.kid rfl).2.2.2 ((UC.out.td.zi (.inr hj)).1 e)
      have hwr : IntKind.i64.wrap (((c.ad x1 : Nat) : Int) + dl) = (a : Nat) := by rw [ha1]; exact IntWalk.i64_in _ (by omega)
      have HA2 := Lib.hid ha2
      have HA3 := Lib.hid ha3
      have hns : (T.n cc l x1 r).ns.length = l.ns.length + r.ns.length + 1 := by simp only [T.ns, List.length_append, List.length_cons]; omega
      rw [hns] at hi hgk
      have HI := Lib.hid hi
      have HG := Lib.hid hgk
      clear ha1 ha2 ha3 hj hns hi hgk
      go_wp2_with (first
        | (go_at_call 26; (with_reducible refine (UC.out.td.load HA2.out HA3.out).mono ?_); rintro e wc ⟨rfl, rfl⟩)
        | (go_at_call 53; (with_reducible refine (UC.out.td.child (.inr hjN.out) (decide (key x1 ≤ key k))).mono ?_); rintro e wc ⟨rfl, hbc⟩; have FR := Lib.hid (FR.out.trans (hbc.mono FR.out.size)); have UC := Lib.hid (UC.out.below hbc); have C1 := Lib.hid UC.out.cell; (try clear c1); have c1 := C1.out; clear hbc))
      have hi := HI.out
      have hgk := HG.out
      generalize hD : decide (key x1 ≤ key k) = D
      cases D with
      | false =>
        have hkey : key k < key x1 := by have := of_decide_eq_false hD; omega
        have hw2 : Hid (way key k l (⟨false, cc, x1, r⟩ :: u) = way key k T0 []) := Lib.hid (by rw [← hW.out, way, if_pos hkey])
        have hR2 : Hid (Rp s (⟨false, cc, x1, r⟩ :: u) l (s.ch x1 false) x1) := Lib.hid (Rp.in_ (d := false) hR.out)
        have hM2 : Hid (∀ j, j ∈ l.ns → c.N j) := Lib.hid fun j hj => hM.out j (by simp [T.ns, hj])
        go_roundg l.ns.length
        case measure => omega
        case rel => exact ⟨i + 1, _, l, _, x1, false, rfl, rfl, rfl, by go_num, rfl, by omega, hR2, hw2, Lib.hid (fun _ => rfl), hM2, UC, FR⟩
      | true =>
        have hkey : ¬ key k < key x1 := by have := of_decide_eq_true hD; omega
        have hw2 : Hid (way key k r (⟨true, cc, x1, l⟩ :: u) = way key k T0 []) := Lib.hid (by rw [← hW.out, way, if_neg hkey])
        have hR2 : Hid (Rp s (⟨true, cc, x1, l⟩ :: u) r (s.ch x1 true) x1) := Lib.hid (Rp.in_ (d := true) hR.out)
        have hM2 : Hid (∀ j, j ∈ r.ns → c.N j) := Lib.hid fun j hj => hM.out j (by simp [T.ns, hj])
        go_roundg r.ns.length
        case measure => omega
        case rel => exact ⟨i + 1, _, r, _, x1, true, rfl, rfl, rfl, by go_num, rfl, by omega, hR2, hw2, Lib.hid (fun _ => rfl), hM2, UC, FR⟩
end
end Go.Proofs.YtiacclmapicmdaaDoor
