/- The contracts of tree's hang, replace, rotate, leftmost over a tree's links. Conditions: the table of widths lies in its block; the arena's blocks are known; its bytes are a tree's links. -/
import Derived.Test.YtiacclmapicmdaaDoorTrFd
import Derived.Deep.LoopGhost
namespace Go.Proofs.YtiacclmapicmdaaDoor
open Go.RowKit

section
variable {c : Cx} {w w' : World} {s : Tr} {I : Nat → Bool}
set_option maxRecDepth 100000 in
set_option maxHeartbeats 4000000 in
theorem Td.hang (t : Td c w s I) {p k : Nat} (hp : p = 0 ∨ c.N p) (hk : k = 0 ∨ c.N k) (d : Bool) :
    Calls Tryd.prog 45 #[lv c.p, .int .i64 (c.rt : Nat), .int .i64 (c.ad p : Nat), .int .i64 (c.ad k : Nat), .bool d] w fun e w' => (∃ u, e = .returned u) ∧ Td c w' (s.join p d k) I ∧ Fg c.g w w' := by
  obtain ⟨w1, hw1⟩ : ∃ w1, w1 = w.alloc (.cells #[.pointer (some ⟨c.p, 0, none⟩)] 69) := ⟨_, rfl⟩
  obtain ⟨b, hbe⟩ : ∃ b, b = w.heap.size := ⟨_, rfl⟩
  have UC : Hid (Tb c w w1 b s I) := Lib.hid (by rw [hw1, hbe]; exact Tb.new t)
  have HW := Lib.hid hw1
  have HBE := Lib.hid hbe
  have HK := Lib.hid hk
  have a0 := t.pl.ad0
  clear hw1 hbe hk
  rcases hp with rfl | hp
  · clear t
    rw [a0]
    show Calls Tryd.prog 45 #[lv c.p, .int .i64 (c.rt : Nat), .int .i64 0, .int .i64 (c.ad k : Nat), .bool d] w _
    have SP : ∀ (w : World) (s : Tr), Td c w s I → Calls Tryd.prog 46 #[lv c.p, .int .i64 (c.ad k : Nat), .int .i64 8, .int .i64 0] w fun e w' => (∃ u, e = .returned u) ∧ Td c w' (s.put k { s.lf k with p := 0 }) I ∧ Fg c.g w w' := fun w s t => by
      have := t.setPar (k := k) (p := 0) HK.out (.inl rfl)
      rw [a0] at this
      exact this
    replace SP := Lib.hid SP
    clear a0
    go_enter Tryd.func45, Tryd.ntmps45
    go_wp2_with fail
    rw [← HBE.out, ← HW.out]
    have C1 := Lib.hid UC.out.cell
    have c1 := C1.out
    go_wp2_with (first
      | (go_at_call 46; (with_reducible refine (UC.out.td.setTop HK.out d).mono ?_); rintro e wc ⟨⟨uv, rfl⟩, hdc, hfc⟩; have UC := Lib.hid (UC.out.fg hdc hfc); have C1 := Lib.hid UC.out.cell; (try clear c1); have c1 := C1.out; clear hdc hfc)
      | (go_at_call 46; (with_reducible refine (SP.out _ _ UC.out.td).mono ?_); rintro e wc ⟨⟨uv, rfl⟩, hdc, hfc⟩; have UC := Lib.hid (UC.out.fg hdc hfc); have C1 := Lib.hid UC.out.cell; (try clear c1); have c1 := C1.out; clear hdc hfc))
    go_end0
    exact ⟨⟨_, rfl⟩, UC.out.td, UC.out.fr⟩
  · have ha : ¬ ((c.ad p : Nat) : Int) = 0 := fun e => by
      have := (t.zi (.inr hp)).1 e
      exact (t.pl.pos p hp).1 this
    have HP := Lib.hid hp
    clear t a0 hp
    cases d
    · have SC : ∀ (w : World) (s : Tr), Td c w s I → Calls Tryd.prog 46 #[lv c.p, .int .i64 (c.ad p : Nat), .int .i64 0, .int .i64 (c.ad k : Nat)] w fun e w' => (∃ u, e = .returned u) ∧ Td c w' (s.link p false k) I ∧ Fg c.g w w' := fun w s t => t.setCh HP.out HK.out false
      replace SC := Lib.hid SC
      go_enter Tryd.func45, Tryd.ntmps45
      go_wp2_with fail
      rw [← HBE.out, ← HW.out]
      have C1 := Lib.hid UC.out.cell
      have c1 := C1.out
      go_wp2_with (first
        | (go_at_call 46; (with_reducible refine (SC.out _ _ UC.out.td).mono ?_); rintro e wc ⟨⟨uv, rfl⟩, hdc, hfc⟩; have UC := Lib.hid (UC.out.fg hdc hfc); have C1 := Lib.hid UC.out.cell; (try clear c1); have c1 := C1.out; clear hdc hfc)
        | (go_at_call 46; (with_reducible refine (UC.out.td.setPar HK.out (.inr HP.out)).mono ?_); rintro e wc ⟨⟨uv, rfl⟩, hdc, hfc⟩; have UC := Lib.hid (UC.out.fg hdc hfc); have C1 := Lib.hid UC.out.cell; (try clear c1); have c1 := C1.out; clear hdc hfc))
      go_end0
      exact ⟨⟨_, rfl⟩, UC.out.td, UC.out.fr⟩
    · have SC : ∀ (w : World) (s : Tr), Td c w s I → Calls Tryd.prog 46 #[lv c.p, .int .i64 (c.ad p : Nat), .int .i64 4, .int .i64 (c.ad k : Nat)] w fun e w' => (∃ u, e = .returned u) ∧ Td c w' (s.link p true k) I ∧ Fg c.g w w' := fun w s t => t.setCh HP.out HK.out true
      replace SC := Lib.hid SC
      go_enter Tryd.func45, Tryd.ntmps45
      go_wp2_with fail
      rw [← HBE.out, ← HW.out]
      have C1 := Lib.hid UC.out.cell
      have c1 := C1.out
      go_wp2_with (first
        | (go_at_call 46; (with_reducible refine (SC.out _ _ UC.out.td).mono ?_); rintro e wc ⟨⟨uv, rfl⟩, hdc, hfc⟩; have UC := Lib.hid (UC.out.fg hdc hfc); have C1 := Lib.hid UC.out.cell; (try clear c1); have c1 := C1.out; clear hdc hfc)
        | (go_at_call 46; (with_reducible refine (UC.out.td.setPar HK.out (.inr HP.out)).mono ?_); rintro e wc ⟨⟨uv, rfl⟩, hdc, hfc⟩; have UC := Lib.hid (UC.out.fg hdc hfc); have C1 := Lib.hid UC.out.cell; (try clear c1); have c1 := C1.out; clear hdc hfc))
      go_end0
      exact ⟨⟨_, rfl⟩, UC.out.td, UC.out.fr⟩
/-- The right child tells the side just as the left one does. -/
def Sd (s : Tr) (x : Nat) : Prop := s.par x = 0 ∨ (decide (s.ch (s.par x) true = x) = s.onR (s.par x) x)
set_option maxRecDepth 100000 in
set_option maxHeartbeats 4000000 in
theorem Td.replace (t : Td c w s I) {o k : Nat} (ho : c.N o) (hk : k = 0 ∨ c.N k) (hs : Sd s o) :
    Calls Tryd.prog 58 #[lv c.p, .int .i64 (c.rt : Nat), .int .i64 (c.ad o : Nat), .int .i64 (c.ad k : Nat)] w fun e w' => (∃ u, e = .returned u) ∧ Td c w' (s.place o k) I ∧ Fg c.g w w' := by
  have hp := t.parN (.inr ho)
  have hch := t.chN hp true
  obtain ⟨d, hd⟩ : ∃ d, d = decide (s.ch (s.par o) true = o) := ⟨_, rfl⟩
  have he : (((c.ad (s.ch (s.par o) true) : Nat) : Int) == (c.ad o : Nat)) = d := by
    rw [hd, Bool.eq_iff_iff]
    simp only [beq_iff_eq, decide_eq_true_eq]
    exact t.eqi hch (.inr ho)
  have hj : s.join (s.par o) d k = s.place o k := by
    unfold Tr.place
    rcases hs with h | h
    · rw [h]; rfl
    · rw [hd, h]
  rw [← hj]
  rw [← he]
  obtain ⟨w1, hw1⟩ : ∃ w1, w1 = w.alloc (.cells #[.pointer (some ⟨c.p, 0, none⟩)] 69) := ⟨_, rfl⟩
  obtain ⟨b, hbe⟩ : ∃ b, b = w.heap.size := ⟨_, rfl⟩
  have UC : Hid (Tb c w w1 b s I) := Lib.hid (by rw [hw1, hbe]; exact Tb.new t)
  have HW := Lib.hid hw1
  have HBE := Lib.hid hbe
  have HK := Lib.hid hk
  have HO := Lib.hid ho
  have HP := Lib.hid hp
  clear hw1 hbe hk ho hp hch hj hd hs t he
  go_enter Tryd.func58, Tryd.ntmps58
  go_wp2_with fail
  rw [← HBE.out, ← HW.out]
  have C1 := Lib.hid UC.out.cell
  have c1 := C1.out
  go_wp2_with (go_at_call 34; (with_reducible refine (UC.out.td.par (.inr HO.out)).mono ?_); rintro e wc ⟨rfl, hbc⟩; have UC := Lib.hid (UC.out.below hbc); have C1 := Lib.hid UC.out.cell; (try clear c1); have c1 := C1.out; clear hbc)
  have UC := Lib.hid UC.out.drew
  go_region_held3 (fun w' => w'.cell? ⟨b, 0, none⟩ = some (.pointer (some ⟨c.p, 0, none⟩))) (first | go_keep | with_reducible exact C1.out) (first
      | (go_at_call 53; (with_reducible refine (UC.out.td.child HP.out true).mono ?_); rintro e wc ⟨rfl, hbc⟩; have UC := Lib.hid (UC.out.below hbc); have C1 := Lib.hid UC.out.cell; replace hbc := Lib.hid hbc)
      | (go_at_call 45; (with_reducible refine (UC.out.td.hang HP.out HK.out _).mono ?_); rintro e wc ⟨⟨uv, rfl⟩, hdc, hfc⟩; have UC := Lib.hid (UC.out.fg hdc hfc); have C1 := Lib.hid UC.out.cell; replace hdc := Lib.hid hdc; replace hfc := Lib.hid hfc))
  all_goals
    go_end0
    exact ⟨⟨_, rfl⟩, UC.out.td, UC.out.fr⟩
end
end Go.Proofs.YtiacclmapicmdaaDoor
