/- The contract of tree's All over a tree's links. Conditions: the table of widths lies in its block; the arena's blocks are known; its bytes are a tree's links. -/
import Derived.Test.YtiacclmapicmdaaDoorTrTell
namespace Go.Proofs.YtiacclmapicmdaaDoor
open Go.RowKit

section
variable {c : Cx} {w w' : World} {s : Tr} {I : Nat → Bool}
set_option maxRecDepth 100000 in
set_option maxHeartbeats 4000000 in
theorem Td.allP (t : Td c w s I) {T0 : T} (h : At s T0 s.top 0) (hN : ∀ j, j ∈ T0.ns → c.N j) (hd : deep T0 ≤ 60) (hlen : T0.ns.length ≤ 10000) :
    Calls Tryd.prog 21 #[.pointer (some ⟨c.p, 0, none⟩), .int .i64 (c.rt : Nat)] w fun e w' => ∃ A cap, e = .returned (.tuple #[.slice A T0.ns.length cap, .int .i64 0]) ∧ Rx w' w.heap.size A cap (T0.ns.map c.ad) ∧ Below w.heap.size w w' := by
  have HR := Lib.hid t.hdR
  have HA := Lib.hid h
  have HN := Lib.hid hN
  have HD := Lib.hid hd
  have HL := Lib.hid hlen
  obtain ⟨w1, hw1⟩ : ∃ w1, w1 = w.alloc (.cells #[.pointer (some ⟨c.p, 0, none⟩)] 69) := ⟨_, rfl⟩
  obtain ⟨b, hbe⟩ : ∃ b, b = w.heap.size := ⟨_, rfl⟩
  have UC : Hid (Tb c w w1 b s I) := Lib.hid (by rw [hw1, hbe]; exact Tb.new t)
  have FR : Hid (Below w.heap.size w w1) := Lib.hid (by rw [hw1]; exact below_one w _)
  have HW := Lib.hid hw1
  have HBE := Lib.hid hbe
  have hsf : ∀ (a : Addr) (fn : Fn) (x y : Array Value) (m : Mode) (W : World), (store a (.func fn x y) m).run Tryd.prog W = stored Tryd.prog W a (.func fn x y) m := fun _ _ _ _ _ _ => run_store _ _ _ _ _ rfl
  have hmf : ∀ (fn : Fn) (first cap : Array Value) (w : World), (Instr.makeFunc fn first cap).run Tryd.prog w = .ok (.func fn first cap) w := fun _ _ _ _ => rfl
  clear hw1 hbe h hN hd hlen t
  go_enter Tryd.func21, Tryd.ntmps21
  go_wp2_with fail
  rw [← HBE.out, ← HW.out]
  have C1 := Lib.hid UC.out.cell
  have c1 := C1.out
  go_wp2_with (go_at_call 33; (with_reducible refine (UC.out.td.holds c.rt 8 (by omega) true HR.out).mono ?_); rintro e wc ⟨rfl, hbc⟩; have FR := Lib.hid (FR.out.trans (hbc.mono FR.out.size)); have UC := Lib.hid (UC.out.below hbc); have C1 := Lib.hid UC.out.cell; (try clear c1); have c1 := C1.out; clear hbc; have nb := new_two wc (.cells #[.slice none 0 0] 44) #[.nilFunc] 70; have z0 := nb.cell 0; have z1 := nb.frozen 0; clear nb)
  obtain ⟨w3, hw3⟩ : ∃ w3, w3 = (wc.alloc (.cells #[.slice none 0 0] 44)).alloc (.cells #[.func (.func 52) #[] #[.pointer (some ⟨wc.heap.size + 1, 0, none⟩), .pointer (some ⟨b, 0, none⟩), .pointer (some ⟨wc.heap.size, 0, none⟩)]] 70) := ⟨_, rfl⟩
  rw [← hw3]
  have h3 : Below wc.heap.size wc w3 := by rw [hw3]; exact (below_one wc _).alloc (by simp) _
  have s3 : w3.heap.size = wc.heap.size + 2 := by rw [hw3]; simp
  have k3 : Blk w3 wc.heap.size 44 #[.slice none 0 0] := by rw [hw3]; exact (Blk.new _ _ _).alloc _
  have k4 : Blk w3 (wc.heap.size + 1) 70 #[fvT wc.heap.size b (wc.heap.size + 1)] := by rw [hw3]; exact new_two _ _ _ _
  have hpb := UC.out.td.pb
  have hgb := UC.out.td.gb
  have hwb := UC.out.td.w0
  have hbb := UC.out.bl.lt
  have HBL : Hid (Below w.heap.size w w3) := Lib.hid (FR.out.trans (h3.mono FR.out.size))
  have SZ : Hid (w.heap.size ≤ wc.heap.size) := Lib.hid FR.out.size
  have q : Hid (Sq c (wc.heap.size + 2) wc.heap.size b (wc.heap.size + 1)) := Lib.hid ⟨⟨by omega, by omega⟩, ⟨by omega, by omega⟩, ⟨by omega, by omega⟩, ⟨by omega, by omega⟩, ⟨by omega, by omega⟩, by omega⟩
  have UQ : Hid (Tq c s I (wc.heap.size + 2) wc.heap.size b (wc.heap.size + 1) w3 w3 [] none 0) := Lib.hid ⟨UC.out.td.below h3, UC.out.bl.below h3 hbb, k4, k3, Rx.nil _ _, Fb.refl _ _ _, by omega⟩
  obtain ⟨ba, hba⟩ : ∃ ba, ba = wc.heap.size := ⟨_, rfl⟩
  obtain ⟨bt, hbt⟩ : ∃ bt, bt = wc.heap.size + 1 := ⟨_, rfl⟩
  rw [← hbt, ← hba] at UQ q
  rw [← hbt, ← hba]
  have HBA := Lib.hid hba
  clear hw3 h3 s3 k3 k4 hpb hgb hwb hbb hba hbt z0 z1 hsf hmf UC C1 c1
  have UC := UQ
  have TL : Hid (∀ w A cap, Tq c s I (ba + 2) ba b bt w3 w [] A cap → Calls Tryd.prog 52 #[.int .i64 (c.ad s.top : Nat), .int .i64 1, .pointer (some ⟨bt, 0, none⟩), .pointer (some ⟨b, 0, none⟩), .pointer (some ⟨ba, 0, none⟩)] w fun e w' => ∃ A' cap', e = .returned (.bool true) ∧ Tq c s I (ba + 2) ba b bt w3 w' (T0.ns.map c.ad) A' cap') := Lib.hid fun w A cap t =>
    tell_ok (lev := 1) q T0 HA.out HN.out (by have := HD.out; omega) (by have := HL.out; simpa using this) t
  have SC := Lib.hid (And.intro UC.out.cl UC.out.ct)
  obtain ⟨k1, k2⟩ := SC.out
  have UC := Lib.hid (UC.out.below (Below.refl _ w3).drew)
  go_region_held3 (fun w' => w'.cell? ⟨b, 0, none⟩ = some (.pointer (some ⟨c.p, 0, none⟩)) ∧ w'.cell? ⟨bt, 0, none⟩ = some (fvT ba b bt)) (first | go_keep | with_reducible exact SC.out) (first
    | (go_at_call 34; (with_reducible refine (UC.out.td.root).mono ?_); rintro e wc ⟨rfl, hbc⟩; have UC := Lib.hid (UC.out.below hbc); have SC := Lib.hid (And.intro UC.out.cl UC.out.ct); replace hbc := Lib.hid hbc)
    | (go_at_call 52; (with_reducible refine (TL.out _ _ _ UC.out).mono ?_); rintro e wd ⟨A2, cap2, rfl, hq⟩; have UC := Lib.hid hq; have SC := Lib.hid (And.intro UC.out.cl UC.out.ct); replace hq := Lib.hid hq))
  all_goals
    have ca := UC.out.ca
    clear k1 k2
    go_wp2_with fail
    go_ret2
    have hb2 := HBA.out
    have hsz := SZ.out
    refine ⟨A2, cap2, rfl, UC.out.rx.less (by omega), HBL.out.trans ⟨UC.out.fb.os, UC.out.fb.tape, UC.out.fb.output, UC.out.fb.size, fun k hk => UC.out.fb.block k (by omega) (by omega)⟩⟩
end
end Go.Proofs.YtiacclmapicmdaaDoor
