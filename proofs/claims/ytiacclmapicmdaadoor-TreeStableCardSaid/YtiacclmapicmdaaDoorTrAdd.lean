/- The contracts of tree's Add and Remove over a tree in memory. Conditions: the table of widths lies in its block; the arena's blocks are known; its bytes are a tree's links; keys lie beside the leaves. -/
import Derived.Test.YtiacclmapicmdaaDoorTrReads
import Derived.Test.YtiacclmapicmdaaDoorTrPlace
import Derived.Test.YtiacclmapicmdaaDoorTrSettle
import Derived.Test.YtiacclmapicmdaaDoorTrBlack
import Derived.Test.YtiacclmapicmdaaDoorTrOut2
import Derived.Deep.CutRange
namespace Go.Proofs.YtiacclmapicmdaaDoor
open Go.RowKit

/-- Leaves are few. -/
def Cz (c : Cx) : Prop := ∀ L : List Nat, L.Nodup → (∀ j, j ∈ L → c.N j) → L.length + 4 < c.n
/-- The arena holds the tree T0. -/
structure Tx (c : Cx) (w : World) (s : Tr) (I : Nat → Bool) (T0 : T) : Prop where
  td : Td c w s I
  al : Al s T0
  inn : ∀ j, I j = true ↔ j ∈ T0.ns
  nN : ∀ j, j ∈ T0.ns → c.N j
  rb : Rb T0
def Tw (c : Cx) (w : World) (T0 : T) : Prop := ∃ s I, Tx c w s I T0
theorem nodup_fns {s : Tr} {u : List Fr} {t : T} {x p : Nat} (_h : Rp s u t x p) : u.length ≤ (fns u).length := by
  have : ∀ u : List Fr, u.length ≤ (fns u).length := fun u => by
    induction u with
    | nil => exact Nat.le_refl _
    | cons f u ih => simp only [fns, List.length_cons, List.length_append]; omega
  exact this u
section
variable {c : Cx} {w w' : World} {s : Tr} {I : Nat → Bool} {T0 : T} {dl : Int} {key : Nat → Nat}
theorem Tx.below (t : Tx c w s I T0) (h : Below w.heap.size w w') : Tx c w' s I T0 := ⟨t.td.below h, t.al, t.inn, t.nN, t.rb⟩
theorem Tw.below (t : Tw c w T0) (h : Below w.heap.size w w') : Tw c w' T0 := by
  obtain ⟨s, I, t⟩ := t
  exact ⟨s, I, t.below h⟩
theorem Td.ownE (t : Td c w s I) {x : Nat} {b : Bool} (hx : c.N x) (e : I x = b) :
    Calls Tryd.prog 34 #[lv c.p, .int .i64 (c.ad x : Nat), .int .i64 12] w fun e w' => e = .returned (.int .i64 ((if b then c.rt else 0 : Nat))) ∧ Below w.heap.size w w' := by
  subst e; exact t.own hx
theorem Td.ownT (t : Td c w s I) {x : Nat} (hx : c.N x) (e : I x = true) :
    Calls Tryd.prog 34 #[lv c.p, .int .i64 (c.ad x : Nat), .int .i64 12] w fun e w' => e = .returned (.int .i64 (c.rt : Nat)) ∧ Below w.heap.size w w' := by
  have := t.own hx
  rw [e] at this
  exact this
theorem Td.ownF (t : Td c w s I) {x : Nat} (hx : c.N x) (e : I x = false) :
    Calls Tryd.prog 34 #[lv c.p, .int .i64 (c.ad x : Nat), .int .i64 12] w fun e w' => e = .returned (.int .i64 0) ∧ Below w.heap.size w w' := by
  have := t.own hx
  rw [e] at this
  exact this
set_option maxRecDepth 100000 in
set_option maxHeartbeats 4000000 in
theorem Tx.add_in (t : Tx c w s I T0) (hk : Ky c dl key) {k : Nat} (hkN : c.N k) (hin : k ∈ T0.ns) :
    Calls Tryd.prog 16 #[.pointer (some ⟨c.p, 0, none⟩), .int .i64 (c.rt : Nat), .int .i64 (c.ad k : Nat), .int .i64 dl] w fun e w' => e = .returned (.int .i64 8) ∧ Below w.heap.size w w' := by
  obtain ⟨a, ha1, ha2, ha3⟩ := hk.at_ k hkN
  have hn := t.td.pl.big
  have hwr : IntKind.i64.wrap (((c.ad k : Nat) : Int) + dl) = (a : Nat) := by rw [ha1]; exact IntWalk.i64_in _ (by omega)
  have HA2 := Lib.hid ha2
  have HA3 := Lib.hid ha3
  have HRT := Lib.hid t.td.hdR
  have HLF := Lib.hid (t.td.hdL hkN)
  have HK := Lib.hid hkN
  clear ha1 ha2 ha3
  have HI := Lib.hid ((t.inn k).2 hin)
  have hr0 : ¬ ((c.rt : Nat) : Int) = 0 := by have := t.td.pl.rpos; omega
  obtain ⟨w1, hw1⟩ : ∃ w1, w1 = w.alloc (.cells #[.pointer (some ⟨c.p, 0, none⟩)] 69) := ⟨_, rfl⟩
  obtain ⟨b, hbe⟩ : ∃ b, b = w.heap.size := ⟨_, rfl⟩
  have UC : Hid (Tb c w w1 b s I) := Lib.hid (by rw [hw1, hbe]; exact Tb.new t.td)
  have FR : Hid (Below w.heap.size w w1) := Lib.hid (by rw [hw1]; exact below_one w _)
  have HW := Lib.hid hw1
  have HBE := Lib.hid hbe
  clear hw1 hbe t hk hkN hin
  go_enter Tryd.func16, Tryd.ntmps16
  go_wp2_with fail
  rw [← HBE.out, ← HW.out]
  have C1 := Lib.hid UC.out.cell
  have c1 := C1.out
  go_wp2_with (first
    | (go_at_call 33; (with_reducible refine (UC.out.td.holds c.rt 8 (by omega) true HRT.out).mono ?_); rintro e wc ⟨rfl, hbc⟩; have FR := Lib.hid (FR.out.trans (hbc.mono FR.out.size)); have UC := Lib.hid (UC.out.below hbc); have C1 := Lib.hid UC.out.cell; (try clear c1); have c1 := C1.out; clear hbc)
    | (go_at_call 33; (with_reducible refine (UC.out.td.holds (c.ad k) 24 (by omega) true HLF.out).mono ?_); rintro e wc ⟨rfl, hbc⟩; have FR := Lib.hid (FR.out.trans (hbc.mono FR.out.size)); have UC := Lib.hid (UC.out.below hbc); have C1 := Lib.hid UC.out.cell; (try clear c1); have c1 := C1.out; clear hbc)
    | (go_at_call 26; (with_reducible refine (UC.out.td.load HA2.out HA3.out).mono ?_); rintro e wc ⟨rfl, rfl⟩)
    | (go_at_call 34; (with_reducible refine (UC.out.td.ownT HK.out HI.out).mono ?_); rintro e wc ⟨rfl, hbc⟩; have FR := Lib.hid (FR.out.trans (hbc.mono FR.out.size)); have UC := Lib.hid (UC.out.below hbc); have C1 := Lib.hid UC.out.cell; (try clear c1); have c1 := C1.out; clear hbc))
  go_ret
  exact ⟨rfl, FR.out⟩
set_option maxRecDepth 100000 in
set_option maxHeartbeats 4000000 in
theorem Tx.add_ok (t : Tx c w s I T0) (hz : Cz c) (hk : Ky c dl key) {k : Nat} (hkN : c.N k) (hin : k ∉ T0.ns) :
    Calls Tryd.prog 16 #[.pointer (some ⟨c.p, 0, none⟩), .int .i64 (c.rt : Nat), .int .i64 (c.ad k : Nat), .int .i64 dl] w fun e w' => e = .returned (.int .i64 0) ∧ Tw c w' (addT key k T0) ∧ Fg c.g w w' := by
  obtain ⟨a, ha1, ha2, ha3⟩ := hk.at_ k hkN
  have hn := t.td.pl.big
  have hwr : IntKind.i64.wrap (((c.ad k : Nat) : Int) + dl) = (a : Nat) := by rw [ha1]; exact IntWalk.i64_in _ (by omega)
  have HA2 := Lib.hid ha2
  have HA3 := Lib.hid ha3
  have HRT := Lib.hid t.td.hdR
  have HLF := Lib.hid (t.td.hdL hkN)
  have HK := Lib.hid hkN
  clear ha1 ha2 ha3
  have HI : Hid (I k = false) := Lib.hid (by
    cases h : I k with
    | false => rfl
    | true => exact absurd ((t.inn k).1 h) hin)
  have hL : Hid (T0.ns.length < c.n) := Lib.hid (by have := hz T0.ns t.al.nt t.nN; omega)
  have HT := Lib.hid t
  have HZ := Lib.hid hz
  have HKY := Lib.hid hk
  have HIN := Lib.hid hin
  obtain ⟨w1, hw1⟩ : ∃ w1, w1 = w.alloc (.cells #[.pointer (some ⟨c.p, 0, none⟩)] 69) := ⟨_, rfl⟩
  obtain ⟨b, hbe⟩ : ∃ b, b = w.heap.size := ⟨_, rfl⟩
  have UC : Hid (Tb c w w1 b s I) := Lib.hid (by rw [hw1, hbe]; exact Tb.new t.td)
  have HW := Lib.hid hw1
  have HBE := Lib.hid hbe
  clear hw1 hbe t hk hkN hin hz
  go_enter Tryd.func16, Tryd.ntmps16
  go_wp2_with fail
  rw [← HBE.out, ← HW.out]
  have C1 := Lib.hid UC.out.cell
  have c1 := C1.out
  go_wp2_with (first
    | (go_at_call 33; (with_reducible refine (UC.out.td.holds c.rt 8 (by omega) true HRT.out).mono ?_); rintro e wc ⟨rfl, hbc⟩; have UC := Lib.hid (UC.out.below hbc); have C1 := Lib.hid UC.out.cell; (try clear c1); have c1 := C1.out; clear hbc)
    | (go_at_call 33; (with_reducible refine (UC.out.td.holds (c.ad k) 24 (by omega) true HLF.out).mono ?_); rintro e wc ⟨rfl, hbc⟩; have UC := Lib.hid (UC.out.below hbc); have C1 := Lib.hid UC.out.cell; (try clear c1); have c1 := C1.out; clear hbc)
    | (go_at_call 26; (with_reducible refine (UC.out.td.load HA2.out HA3.out).mono ?_); rintro e wc ⟨rfl, rfl⟩)
    | (go_at_call 34; (with_reducible refine (UC.out.td.ownF HK.out HI.out).mono ?_); rintro e wc ⟨rfl, hbc⟩; have UC := Lib.hid (UC.out.below hbc); have C1 := Lib.hid UC.out.cell; (try clear c1); have c1 := C1.out; clear hbc)
    | (go_at_call 44; (with_reducible refine (UC.out.td.placeOf HKY.out HT.out.al.at_ HT.out.al.nt HT.out.nN k hL.out).mono ?_); rintro e wc ⟨p, r, rfl, hrp, hsd, hbc⟩; have HRP := Lib.hid hrp; have HSD := Lib.hid hsd; have UC := Lib.hid (UC.out.below hbc); have C1 := Lib.hid UC.out.cell; (try clear c1); have c1 := C1.out; clear hbc hrp hsd))
  have pN : p = 0 ∨ c.N p := by
    rcases HRP.out.z0 with h | ⟨h, _⟩
    · exact .inl h
    · refine .inr (HT.out.nN p ?_)
      have := mem_plug (u := way key k T0 []) (t := .e) (j := p)
      rw [way_plug] at this
      exact this.2 (.inr h)
  have PN := Lib.hid pN
  clear pN
  go_wp2_with (go_at_call 45; (with_reducible refine (UC.out.td.hang PN.out (.inr HK.out) r).mono ?_); rintro e wc ⟨⟨uv, rfl⟩, hdc, hfc⟩; have UC := Lib.hid (UC.out.fg hdc hfc); have C1 := Lib.hid UC.out.cell; (try clear c1); have c1 := C1.out; clear hdc hfc)
  go_wp2_with (first
    | (go_at_call 46; (with_reducible refine (UC.out.td.setOwn HK.out).mono ?_); rintro e wc ⟨⟨uv, rfl⟩, hdc, hfc⟩; have UC := Lib.hid (UC.out.fg hdc hfc); have C1 := Lib.hid UC.out.cell; (try clear c1); have c1 := C1.out; clear hdc hfc)
    | (go_at_call 46; (with_reducible refine (UC.out.td.paint1 (.inr HK.out)).mono ?_); rintro e wc ⟨⟨uv, rfl⟩, hdc, hfc⟩; have UC := Lib.hid (UC.out.fg hdc hfc); have C1 := Lib.hid UC.out.cell; (try clear c1); have c1 := C1.out; clear hdc hfc))
  obtain ⟨s2, hs2⟩ : ∃ s2, s2 = (s.join p r k).paint k true := ⟨_, rfl⟩
  rw [← hs2] at UC
  have hfree := HT.out.al.no k HIN.out (UC.out.td.pl.pos k HK.out).1
  have hkf : k ∉ fns (way key k T0 []) := fun h => HIN.out (by
    have := mem_plug (u := way key k T0 []) (t := .e) (j := k)
    rw [way_plug] at this
    exact this.2 (.inr h))
  have hrp := rp_new HRP.out hkf (UC.out.td.pl.pos k HK.out).1 hfree.1 HSD.out
  rw [← hs2] at hrp
  have hrb : ∃ n, Bu (way key k T0 []) n ∧ Bal (.n true .e k .e) n := by
    have h : Rb (plug (way key k T0 []) .e) := by rw [way_plug]; exact HT.out.rb
    obtain ⟨n, hu, ht, _⟩ := plug_rb.1 h
    have : n = 0 := ht
    subst this
    exact ⟨0, hu, 0, rfl, rfl, rfl, fun _ => ⟨rfl, rfl⟩⟩
  have hns : ∀ j, j ∈ (plug (way key k T0 []) (.n true .e k .e)).ns ↔ j ∈ k :: T0.ns := fun j => by
    have this : j ∈ T0.ns ↔ j ∈ T.e.ns ∨ j ∈ fns (way key k T0 []) := by
      have := mem_plug (u := way key k T0 []) (t := .e) (j := j)
      rw [way_plug] at this
      exact this
    rw [mem_plug, List.mem_cons, this]
    simp [T.ns]
  have hNN : ∀ j, j ∈ (plug (way key k T0 []) (.n true .e k .e)).ns → c.N j := fun j hj => by
    rcases List.mem_cons.1 ((hns j).1 hj) with h | h
    · rw [h]; exact HK.out
    · exact HT.out.nN j h
  have RA : Hid (Ra (way key k T0 []) (.n true .e k .e) s2 s2 (way key k T0 []) (.n true .e k .e) k p) := Lib.hid ⟨hrp, rfl, hrb, rfl, Out.refl _ _⟩
  have HNN := Lib.hid hNN
  have hlen : Hid ((way key k T0 []).length + 1 < c.n) := Lib.hid (by
    have h1 := nodup_fns hrp
    have h2 := HZ.out _ hrp.nu (fun j hj => hNN j (mem_plug.2 (.inr hj)))
    omega)
  have HNS := Lib.hid hns
  have HS2 := Lib.hid hs2
  clear hfree hkf hrp hrb hns hNN hs2
  go_wp2_with (go_at_call 47; (with_reducible refine (UC.out.td.settleRed RA.out HNN.out hlen.out).mono ?_); rintro e wd ⟨⟨uv, rfl⟩, s', hdc, hR, hO, hfc⟩; have UD := Lib.hid (UC.out.fg hdc hfc); have C1 := Lib.hid UD.out.cell; (try clear c1); have c1 := C1.out; have HRR := Lib.hid hR; have HO := Lib.hid hO; clear hdc hfc hR hO)
  go_ret
  refine ⟨rfl, ⟨s', _, UD.out.td, ?_, fun j => ?_, fun j hj => ?_, addT_rb HT.out.rb⟩, UD.out.fr⟩
  · refine al_added HT.out.al HRR.out (fun j => addT_mem) ?_
    refine Out.trans (s' := s2) ?_ (HO.out.mono fun j hj => (HNS.out j).1 hj)
    rw [HS2.out]
    refine (out_join _ ?_ (.inl (by simp))).trans (out_paint _ (.inl (by simp)))
    rcases HRP.out.z0 with h | ⟨h, _⟩
    · exact .inr h
    · left
      have := mem_plug (u := way key k T0 []) (t := .e) (j := p)
      rw [way_plug] at this
      exact List.mem_cons_of_mem _ (this.2 (.inr h))
  · rw [addT_mem]
    by_cases e : j = k
    · simp [e]
    · simp only [e, if_false, false_or]
      exact HT.out.inn j
  · rcases addT_mem.1 hj with h | h
    · rw [h]; exact HK.out
    · exact HT.out.nN j h
set_option maxRecDepth 100000 in
set_option maxHeartbeats 4000000 in
theorem Tx.del_no (t : Tx c w s I T0) {k : Nat} (hkN : c.N k) (hin : k ∉ T0.ns) :
    Calls Tryd.prog 13 #[.pointer (some ⟨c.p, 0, none⟩), .int .i64 (c.rt : Nat), .int .i64 (c.ad k : Nat)] w fun e w' => e = .returned (.int .i64 8) ∧ Below w.heap.size w w' := by
  have HRT := Lib.hid t.td.hdR
  have HLF := Lib.hid (t.td.hdL hkN)
  have HK := Lib.hid hkN
  have HI : Hid (I k = false) := Lib.hid (by
    cases h : I k with
    | false => rfl
    | true => exact absurd ((t.inn k).1 h) hin)
  have hr0 : ¬ (0 : Int) = (c.rt : Nat) := by have := t.td.pl.rpos; omega
  obtain ⟨w1, hw1⟩ : ∃ w1, w1 = w.alloc (.cells #[.pointer (some ⟨c.p, 0, none⟩)] 69) := ⟨_, rfl⟩
  obtain ⟨b, hbe⟩ : ∃ b, b = w.heap.size := ⟨_, rfl⟩
  have UC : Hid (Tb c w w1 b s I) := Lib.hid (by rw [hw1, hbe]; exact Tb.new t.td)
  have FR : Hid (Below w.heap.size w w1) := Lib.hid (by rw [hw1]; exact below_one w _)
  have HW := Lib.hid hw1
  have HBE := Lib.hid hbe
  clear hw1 hbe t hkN hin
  go_enter Tryd.func13, Tryd.ntmps13
  go_wp2_with fail
  rw [← HBE.out, ← HW.out]
  have C1 := Lib.hid UC.out.cell
  have c1 := C1.out
  go_wp2_with (first
    | (go_at_call 33; (with_reducible refine (UC.out.td.holds c.rt 8 (by omega) true HRT.out).mono ?_); rintro e wc ⟨rfl, hbc⟩; have FR := Lib.hid (FR.out.trans (hbc.mono FR.out.size)); have UC := Lib.hid (UC.out.below hbc); have C1 := Lib.hid UC.out.cell; (try clear c1); have c1 := C1.out; clear hbc)
    | (go_at_call 33; (with_reducible refine (UC.out.td.holds (c.ad k) 24 (by omega) true HLF.out).mono ?_); rintro e wc ⟨rfl, hbc⟩; have FR := Lib.hid (FR.out.trans (hbc.mono FR.out.size)); have UC := Lib.hid (UC.out.below hbc); have C1 := Lib.hid UC.out.cell; (try clear c1); have c1 := C1.out; clear hbc)
    | (go_at_call 34; (with_reducible refine (UC.out.td.ownF HK.out HI.out).mono ?_); rintro e wc ⟨rfl, hbc⟩; have FR := Lib.hid (FR.out.trans (hbc.mono FR.out.size)); have UC := Lib.hid (UC.out.below hbc); have C1 := Lib.hid UC.out.cell; (try clear c1); have c1 := C1.out; clear hbc))
  go_ret
  exact ⟨rfl, FR.out⟩
set_option maxRecDepth 100000 in
set_option maxHeartbeats 4000000 in
theorem Tx.del_ok {u : List Fr} {cc : Bool} {l r : T} {k : Nat} (t : Tx c w s I (plug u (.n cc l k r))) (hz : Cz c) :
    Calls Tryd.prog 13 #[.pointer (some ⟨c.p, 0, none⟩), .int .i64 (c.rt : Nat), .int .i64 (c.ad k : Nat)] w fun e w' => e = .returned (.int .i64 0) ∧ Tw c w' (delAt u (.n cc l k r)) ∧ Fg c.g w w' := by
  have hin : k ∈ (plug u (.n cc l k r)).ns := mem_plug.2 (.inl (by simp [T.ns]))
  have hkN := t.nN k hin
  have HRT := Lib.hid t.td.hdR
  have HLF := Lib.hid (t.td.hdL hkN)
  have HK := Lib.hid hkN
  have HI := Lib.hid ((t.inn k).2 hin)
  have HT := Lib.hid t
  have HZ := Lib.hid hz
  obtain ⟨x0, p0, hrp0⟩ := t.al.plug_rp
  have hx0 : x0 = k := hrp0.root
  rw [hx0] at hrp0
  have HRP := Lib.hid hrp0
  have HL : Hid ((plug u (.n cc l k r)).ns.length < c.n) := Lib.hid (by have := hz _ t.al.nt t.nN; omega)
  have DRB : Hid (Rb (delAt u (.n cc l k r))) := Lib.hid (delAt_rb t.rb)
  obtain ⟨w1, hw1⟩ : ∃ w1, w1 = w.alloc (.cells #[.pointer (some ⟨c.p, 0, none⟩)] 69) := ⟨_, rfl⟩
  obtain ⟨b, hbe⟩ : ∃ b, b = w.heap.size := ⟨_, rfl⟩
  have UC : Hid (Tb c w w1 b s I) := Lib.hid (by rw [hw1, hbe]; exact Tb.new t.td)
  have HW := Lib.hid hw1
  have HBE := Lib.hid hbe
  clear hw1 hbe t hkN hin hz hrp0 hx0
  have TO : Hid (∀ w, Td c w s I → Calls Tryd.prog 35 #[lv c.p, .int .i64 (c.rt : Nat), .int .i64 (c.ad k : Nat)] w fun e w' => ∃ x' p' col s', e = .returned (.tuple #[.int .i64 (c.ad x' : Nat), .int .i64 (c.ad p' : Nat), .int .i64 (cv col)]) ∧
      Td c w' s' I ∧ Tk c (plug u (.n cc l k r)).ns s s' (delAt u (.n cc l k r)) x' p' col ∧ (p' = 0 ∨ c.N p') ∧ Fg c.g w w') := Lib.hid fun w t =>
    t.takeOut HRP.out HT.out.rb HT.out.nN HL.out
  go_enter Tryd.func13, Tryd.ntmps13
  go_wp2_with fail
  rw [← HBE.out, ← HW.out]
  have C1 := Lib.hid UC.out.cell
  have c1 := C1.out
  go_upto_region 7 with (first
    | (go_at_call 33; (with_reducible refine (UC.out.td.holds c.rt 8 (by omega) true HRT.out).mono ?_); rintro e wc ⟨rfl, hbc⟩; have UC := Lib.hid (UC.out.below hbc); have C1 := Lib.hid UC.out.cell; (try clear c1); have c1 := C1.out; clear hbc)
    | (go_at_call 33; (with_reducible refine (UC.out.td.holds (c.ad k) 24 (by omega) true HLF.out).mono ?_); rintro e wc ⟨rfl, hbc⟩; have UC := Lib.hid (UC.out.below hbc); have C1 := Lib.hid UC.out.cell; (try clear c1); have c1 := C1.out; clear hbc)
    | (go_at_call 34; (with_reducible refine (UC.out.td.ownT HK.out HI.out).mono ?_); rintro e wc ⟨rfl, hbc⟩; have UC := Lib.hid (UC.out.below hbc); have C1 := Lib.hid UC.out.cell; (try clear c1); have c1 := C1.out; clear hbc)
    | (go_at_call 35; (with_reducible refine (TO.out _ UC.out.td).mono ?_); rintro e wc ⟨x', p', col, s', rfl, hdc, hTK, hPN, hfc⟩; have UC := Lib.hid (UC.out.fg hdc hfc); have C1 := Lib.hid UC.out.cell; (try clear c1); have c1 := C1.out; have HTK := Lib.hid hTK; have HPN := Lib.hid hPN; clear hdc hfc hTK hPN; skip))
  obtain ⟨u', t', hR, hD, hB, hM⟩ := HTK.out.ex
  have DONE : Hid (∀ s'', Rp s'' [] (delAt u (.n cc l k r)) s''.top 0 → Out (plug u (.n cc l k r)).ns s' s'' → ∀ w'', Td c w'' (s''.clr k) (fun j => if j = k then false else I j) → Tw c w'' (delAt u (.n cc l k r))) := Lib.hid fun s'' h1 h2 w'' h3 => by
    have hmem : ∀ j, j ∈ (plug u (.n cc l k r)).ns ↔ j = k ∨ j ∈ (delAt u (.n cc l k r)).ns := fun j => by
      obtain ⟨e1, e2⟩ := delAt_cut u cc l r k
      rw [e1, e2]
      simp only [List.mem_append, List.mem_cons]
      constructor
      · rintro ((h | h) | h | h | h) <;> simp [h]
      · rintro (h | (h | h) | h | h) <;> simp [h]
    have k0 : k ≠ 0 := fun e => (h3.pl.pos k HK.out).1 e
    have hknot : k ∉ (delAt u (.n cc l k r)).ns := fun h => by
      have := HT.out.al.nt
      obtain ⟨e1, e2⟩ := delAt_cut u cc l r k
      rw [e1] at this
      rw [e2] at h
      obtain ⟨_, h4, h5⟩ := List.nodup_append.1 this
      rcases List.mem_append.1 h with h | h
      · exact h5 k h k (by simp) rfl
      · exact (List.nodup_cons.1 h4).1 h
    have same : ∀ j, j ≠ k → (∀ d, (s''.clr k).ch j d = s''.ch j d) ∧ (s''.clr k).red j = s''.red j ∧ (s''.clr k).par j = s''.par j := fun j hj => by
      unfold Tr.clr Tr.ch Tr.red Tr.par
      simp [hj]
    refine ⟨_, _, h3, al_removed (s' := s''.clr k) HT.out.al ?_ hmem ?_ ?_, fun j => ?_, fun j hj => ?_, DRB.out⟩
    · have h4 := h1.same (s' := s''.clr k) (fun j hj => same j (fun e => by
        rcases hj with hj | hj
        · exact hknot (e ▸ hj)
        · cases hj)) rfl
      exact h4
    · refine (HTK.out.out.trans h2).trans (fun j hj _ => ?_)
      have hjk : j ≠ k := fun e => hj ((hmem j).2 (.inl e))
      exact ⟨(same j hjk).1, (same j hjk).2.2, (same j hjk).2.1⟩
    · unfold Tr.clr Tr.ch Tr.red Tr.par
      refine ⟨fun d => by cases d <;> simp, by simp, by simp⟩
    · by_cases e : j = k
      · subst e
        simp only [if_true]
        constructor
        · intro h; cases h
        · intro h; exact absurd h hknot
      · simp only [e, if_false]
        rw [HT.out.inn j, hmem j]
        simp [e]
    · exact HT.out.nN j ((hmem j).2 (.inr hj))
  cases col with
  | true =>
    have hW : Hid (Rp s' [] (delAt u (.n cc l k r)) s'.top 0) := Lib.hid (by
      rw [hD]
      exact whole_top hR)
    clear hR hD hB hM
    have e1 : cv true = 1 := rfl
    rw [e1]
    go_wp2_with (go_at_call 37; (with_reducible refine (UC.out.td.fill HK.out).mono ?_); rintro e wd ⟨rfl, hdc, hfc⟩; have UD := Lib.hid (UC.out.fg hdc hfc); have C1 := Lib.hid UD.out.cell; (try clear c1); have c1 := C1.out; clear hdc hfc)
    go_ret
    exact ⟨rfl, DONE.out s' hW.out (Out.refl _ _) _ UD.out.td, UD.out.fr⟩
  | false =>
    have hRD : Hid (Rd u' t' s' s' u' t' x' p') := Lib.hid ⟨hR, fun _ => hB rfl, rfl, Out.refl _ _⟩
    have hMM : Hid (∀ j, j ∈ (plug u' t').ns → c.N j) := Lib.hid fun j hj => HT.out.nN j (hM j hj)
    have hMS := Lib.hid hM
    have hDE : Hid (delAt u (.n cc l k r) = delFix u' t') := Lib.hid hD
    have hDR : Hid ((delFix u' t').red = false) := Lib.hid (by rw [← hDE.out]; exact DRB.out.2)
    have hlen : Hid (u'.length + 3 < c.n) := Lib.hid (by
      have h1 := nodup_fns hR
      have h2 := HZ.out _ hR.nu (fun j hj => HT.out.nN j (hM j (mem_plug.2 (.inr hj))))
      omega)
    clear hR hD hB hM
    have e1 : cv false = 0 := rfl
    rw [e1]
    go_wp2_with (go_at_call 36; (with_reducible refine (UC.out.td.settleBlack hRD.out hDR.out hMM.out HPN.out hlen.out).mono ?_); rintro e wd ⟨⟨uv, rfl⟩, s'', hdc, hR2, hO2, hfc⟩; have UD := Lib.hid (UC.out.fg hdc hfc); have C1 := Lib.hid UD.out.cell; (try clear c1); have c1 := C1.out; have HR2 := Lib.hid hR2; have HO2 := Lib.hid hO2; clear hdc hfc hR2 hO2; skip)
    go_wp2_with (go_at_call 37; (with_reducible refine (UD.out.td.fill HK.out).mono ?_); rintro e wd ⟨rfl, hdc, hfc⟩; have UE := Lib.hid (UD.out.fg hdc hfc); have C1 := Lib.hid UE.out.cell; (try clear c1); have c1 := C1.out; clear hdc hfc)
    go_ret
    exact ⟨rfl, DONE.out s'' (by rw [hDE.out]; exact HR2.out) (HO2.out.mono hMS.out) _ UE.out.td, UE.out.fr⟩
end
end Go.Proofs.YtiacclmapicmdaaDoor
