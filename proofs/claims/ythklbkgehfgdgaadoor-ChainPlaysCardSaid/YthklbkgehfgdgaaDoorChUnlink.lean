/- The contract of chain's unlink. Conditions: the table of widths lies in its block; the arena's blocks are known; its bytes are lists' links. -/
import Derived.Test.YthklbkgehfgdgaaDoorChSmall
import Derived.Deep.RegionHeld3
namespace Go.Proofs.YthklbkgehfgdgaaDoor
open Go.RowKit

/-- An arena of n bytes, f, in blocks p and g, beside the table of widths. -/
structure Aw (w : World) (p g n : Nat) (f : Nat → Int) : Prop where
  tab : Tab w
  wg : 0 < g
  ar : Ar w p g n f
section
variable {w w' : World} {p g n : Nat} {f f' : Nat → Int}
theorem Aw.w0 (a : Aw w p g n f) : 0 < w.heap.size := Nat.lt_trans a.wg a.ar.body.lt
theorem Aw.below (a : Aw w p g n f) (h : Below w.heap.size w w') : Aw w' p g n f := ⟨a.tab.below h a.w0, a.wg, a.ar.below h a.ar.head.lt a.ar.body.lt⟩
theorem Aw.fg (a : Aw w p g n f) (h : Fg g w w') (h' : Ar w' p g n f') : Aw w' p g n f' := ⟨a.tab.fg h a.w0 a.wg, a.wg, h'⟩
theorem Aw.drew (a : Aw w p g n f) : Aw w.drew p g n f := a.below ((Below.refl _ w).drew)
theorem Aw.gb (a : Aw w p g n f) : g < w.heap.size := a.ar.body.lt
theorem Aw.link (a : Aw w p g n f) (k : Nat) (hk : k + 4 ≤ n) :
    Calls Tryd.prog 29 #[lv p, .int .i64 k] w fun e w' => e = .returned (.int .i64 (lk f k)) ∧ Below w.heap.size w w' := link_at k a.tab a.w0 a.ar hk
theorem Aw.set (a : Aw w p g n f) (k v : Nat) (hk : k + 4 ≤ n) (hv : v < 4294967296) :
    Calls Tryd.prog 31 #[lv p, .int .i64 k, .int .i64 v] w fun e w' => (∃ u, e = .returned u) ∧ Aw w' p g n (st f k v 4) ∧ Fg g w w' :=
  (set_at k v a.tab a.w0 a.ar hk hv).mono fun _ _ ⟨h1, h2, h3⟩ => ⟨h1, a.fg h3 h2, h3⟩
end
/-- A function's own box of the links, beside the arena; what turned since w0. -/
structure Ub (w0 w : World) (p g n b : Nat) (f : Nat → Int) : Prop where
  aw : Aw w p g n f
  bl : Blk w b 60 #[.pointer (some ⟨p, 0, none⟩)]
  fr : Fg g w0 w
  ne : b ≠ g
section
variable {w0 w w' : World} {p g n b : Nat} {f f' : Nat → Int}
theorem Ub.below (u : Ub w0 w p g n b f) (h : Below w.heap.size w w') : Ub w0 w' p g n b f := ⟨u.aw.below h, u.bl.below h u.bl.lt, u.fr.trans (Fg.of_below h (Nat.le_refl _)), u.ne⟩
theorem Ub.fg (u : Ub w0 w p g n b f) (h : Fg g w w') (h' : Aw w' p g n f') : Ub w0 w' p g n b f' := ⟨h', u.bl.fg h u.ne, u.fr.trans h, u.ne⟩
theorem Ub.drew (u : Ub w0 w p g n b f) : Ub w0 w.drew p g n b f := u.below ((Below.refl _ w).drew)
theorem Ub.cell (u : Ub w0 w p g n b f) : w.cell? ⟨b, 0, none⟩ = some (.pointer (some ⟨p, 0, none⟩)) := u.bl.cell 0
theorem Ub.new (a : Aw w p g n f) : Ub w (w.alloc (.cells #[.pointer (some ⟨p, 0, none⟩)] 60)) p g n w.heap.size f :=
  ⟨a.below (below_one w _), Blk.new _ _ _, Fg.of_below (below_one w _) (Nat.le_refl _), by have := a.gb; omega⟩
end
section
variable {w : World} {p g n : Nat} {H : List Nat} {N : Nat → Prop} {L : Nat → List Nat} {f : Nat → Int}
theorem Ch.oh_bd (c : Ch n H N L f) {h : Nat} (hh : h ∈ H) {v : Nat} (hv : v = 0 ∨ v ∈ L h) : oh v h + 8 ≤ n ∧ 1 ≤ oh v h := by
  have hb : Base H N (oh v h) := by
    unfold oh
    split
    · exact .inl hh
    · rename_i hne
      exact .inr (c.mem h hh _ (hv.resolve_left hne))
  have := c.lay.pos hb
  omega
theorem Ch.val_bd (c : Ch n H N L f) {h : Nat} (hh : h ∈ H) {v : Nat} (hv : v = 0 ∨ v ∈ L h) : v ≤ 65536 := by
  rcases hv with rfl | hv
  · omega
  · have := c.lay.xin v (c.mem h hh v hv)
    have := c.big
    omega
set_option maxRecDepth 100000 in
set_option maxHeartbeats 4000000 in
theorem unlink_any (a : Aw w p g n f) (c : Ch n H N L f) {h x : Nat} (hh : h ∈ H) (hx : x ∈ L h) :
    Calls Tryd.prog 36 #[lv p, .int .i64 h, .int .i64 x] w fun e w' =>
      (∃ u, e = .returned u) ∧ Aw w' p g n (cutF f h x (nxt (dl true (L h)) x) (nxt (dl false (L h)) x)) ∧ Fg g w w' := by
  have hxb := c.lay.xin x (c.mem h hh x hx)
  have hn := c.big
  have e1 := c.next hh true hx
  have e2 := c.next hh false hx
  have m1 : nxt (dl true (L h)) x = 0 ∨ nxt (dl true (L h)) x ∈ L h := nxt_mem.imp id (fun e => dl_mem.1 e)
  have m2 : nxt (dl false (L h)) x = 0 ∨ nxt (dl false (L h)) x ∈ L h := nxt_mem.imp id (fun e => dl_mem.1 e)
  generalize nxt (dl true (L h)) x = nx at e1 m1 ⊢
  generalize nxt (dl false (L h)) x = pv at e2 m2 ⊢
  have b1 := c.oh_bd hh m1
  have b2 := c.oh_bd hh m2
  have v1 := c.val_bd hh m1
  have v2 := c.val_bd hh m2
  have hhb := c.lay.hin h hh
  obtain ⟨qp, hqp⟩ : ∃ q, q = oh pv h := ⟨_, rfl⟩
  obtain ⟨qn, hqn⟩ : ∃ q, q = oh nx h := ⟨_, rfl⟩
  have O1 : ∀ w, Calls Tryd.prog 32 #[.int .i64 pv, .int .i64 h] w fun e w' => e = .returned (.int .i64 (qp : Nat)) ∧ w = w' := fun w => by rw [hqp]; exact orHead_any pv h w
  have O2 : ∀ w, Calls Tryd.prog 32 #[.int .i64 nx, .int .i64 h] w fun e w' => e = .returned (.int .i64 (qn : Nat)) ∧ w = w' := fun w => by rw [hqn]; exact orHead_any nx h w
  have K1 : ∀ w, Aw w p g n f → Calls Tryd.prog 29 #[lv p, .int .i64 (x : Int)] w fun e w' => e = .returned (.int .i64 (nx : Nat)) ∧ Below w.heap.size w w' := fun w a => by
    have := a.link x (by omega)
    rwa [show lk f x = (nx : Int) from e1] at this
  have K2 : ∀ w, Aw w p g n f → Calls Tryd.prog 29 #[lv p, .int .i64 ((x : Int) + 4)] w fun e w' => e = .returned (.int .i64 (pv : Nat)) ∧ Below w.heap.size w w' := fun w a => by
    have := a.link (x + 4) (by omega)
    rwa [show lk f (x + 4) = (pv : Int) from e2] at this
  rw [← hqp] at b2
  rw [← hqn] at b1
  have S1 : ∀ w, Aw w p g n f → Calls Tryd.prog 31 #[lv p, .int .i64 (qp : Int), .int .i64 (nx : Int)] w fun e w' => (∃ u, e = .returned u) ∧ Aw w' p g n (st f qp nx 4) ∧ Fg g w w' := fun w a => a.set qp nx (by omega) (by omega)
  have S2 : ∀ w, Aw w p g n (st f qp nx 4) → Calls Tryd.prog 31 #[lv p, .int .i64 ((qn : Int) + 4), .int .i64 (pv : Int)] w fun e w' => (∃ u, e = .returned u) ∧ Aw w' p g n (st (st f qp nx 4) (qn + 4) pv 4) ∧ Fg g w w' := fun w a => a.set (qn + 4) pv (by omega) (by omega)
  have F1 : ∀ w, Aw w p g n (st (st f qp nx 4) (qn + 4) pv 4) → Calls Tryd.prog 44 #[.pointer (some ⟨p, 0, none⟩), .int .i64 (x : Int), .int .i64 16, .int .u8 0] w fun e w' => e = .returned (.int .i64 0) ∧ Aw w' p g n (fl (st (st f qp nx 4) (qn + 4) pv 4) x 0 16) ∧ Fg g w w' := fun w a =>
    (fill_ok p g n _ x 16 0 a.ar (by omega) (by omega)).mono fun _ _ ⟨h1, h2, h3⟩ => ⟨h1, a.fg (Fg.of_only h3) h2, Fg.of_only h3⟩
  have EC : Hid (cutF f h x nx pv = fl (st (st f qp nx 4) (qn + 4) pv 4) x 0 16) := Lib.hid (by rw [hqp, hqn]; rfl)
  rw [EC.out]
  obtain ⟨w1, hw1⟩ : ∃ w1, w1 = w.alloc (.cells #[.pointer (some ⟨p, 0, none⟩)] 60) := ⟨_, rfl⟩
  obtain ⟨b, hbe⟩ : ∃ b, b = w.heap.size := ⟨_, rfl⟩
  have UC : Hid (Ub w w1.drew p g n b f) := Lib.hid (by rw [hw1, hbe]; exact (Ub.new a).drew)
  have C1 : Hid (w1.cell? ⟨b, 0, none⟩ = some (.pointer (some ⟨p, 0, none⟩))) := Lib.hid (by rw [hw1, hbe]; exact (Ub.new a).cell)
  have c1 := C1.out
  have A1 := Lib.hid UC.out.aw
  have HW := Lib.hid hw1
  have HBE := Lib.hid hbe
  replace O1 := Lib.hid O1
  replace O2 := Lib.hid O2
  replace K1 := Lib.hid K1
  replace K2 := Lib.hid K2
  replace S1 := Lib.hid S1
  replace S2 := Lib.hid S2
  replace F1 := Lib.hid F1
  have x1 : IntKind.i64.wrap (x : Int) = x := IntWalk.i64_in _ (by omega)
  have x2 : IntKind.i64.wrap ((x : Int) + 4) = x + 4 := IntWalk.i64_in _ (by omega)
  have x3 : IntKind.i64.wrap (qp : Int) = qp := IntWalk.i64_in _ (by omega)
  have x4 : IntKind.i64.wrap ((qn : Int) + 4) = qn + 4 := IntWalk.i64_in _ (by omega)
  clear e1 e2 m1 m2 hqp hqn hw1 hbe a c hh hx EC
  go_enter Tryd.func36, Tryd.ntmps36
  go_wp2_with fail
  rw [← HBE.out, ← HW.out]
  go_region_held3 (fun w' => w'.cell? ⟨b, 0, none⟩ = some (.pointer (some ⟨p, 0, none⟩))) (first | go_keep | with_reducible exact C1.out) (first
    | (go_at_call 29; (with_reducible refine (K1.out _ A1.out).mono ?_); rintro e wa ⟨rfl, hba⟩; have UC := Lib.hid (UC.out.below hba); have C1 := Lib.hid UC.out.cell; have A1 := Lib.hid UC.out.aw; replace hba := Lib.hid hba)
    | (go_at_call 29; (with_reducible refine (K2.out _ A1.out).mono ?_); rintro e wa ⟨rfl, hba⟩; have UC := Lib.hid (UC.out.below hba); have C1 := Lib.hid UC.out.cell; have A1 := Lib.hid UC.out.aw; replace hba := Lib.hid hba))
  all_goals
    have c1 := C1.out
    have UC := Lib.hid UC.out.drew
    have A1 := Lib.hid UC.out.aw
    go_wp2_with fail
    go_region_held3 (fun w' => w'.cell? ⟨b, 0, none⟩ = some (.pointer (some ⟨p, 0, none⟩))) (first | go_keep | with_reducible exact C1.out) (first
      | (go_at_call 32; (with_reducible refine (O1.out _).mono ?_); rintro e wb ⟨rfl, rfl⟩)
      | (go_at_call 31; (with_reducible refine (S1.out _ A1.out).mono ?_); rintro e wb ⟨⟨u, rfl⟩, hAb, hFb⟩; have UC := Lib.hid (UC.out.fg hFb hAb); have C1 := Lib.hid UC.out.cell; have A1 := Lib.hid UC.out.aw; replace hAb := Lib.hid hAb; replace hFb := Lib.hid hFb))
    all_goals
      clear c1
      have c1 := C1.out
      have UC := Lib.hid UC.out.drew
      have A1 := Lib.hid UC.out.aw
      go_wp2_with fail
      go_region_held3 (fun w' => w'.cell? ⟨b, 0, none⟩ = some (.pointer (some ⟨p, 0, none⟩))) (first | go_keep | with_reducible exact C1.out) (first
        | (go_at_call 32; (with_reducible refine (O2.out _).mono ?_); rintro e wb ⟨rfl, rfl⟩)
        | (go_at_call 31; (with_reducible refine (S2.out _ A1.out).mono ?_); rintro e wb ⟨⟨u, rfl⟩, hAb, hFb⟩; have UC := Lib.hid (UC.out.fg hFb hAb); have C1 := Lib.hid UC.out.cell; have A1 := Lib.hid UC.out.aw; replace hAb := Lib.hid hAb; replace hFb := Lib.hid hFb))
      all_goals
        clear c1
        have c1 := C1.out
        go_wp2_with (go_at_call 44; (with_reducible refine (F1.out _ A1.out).mono ?_); rintro e wb ⟨rfl, hAb, hFb⟩; have UC := Lib.hid (UC.out.fg hFb hAb); replace hAb := Lib.hid hAb; replace hFb := Lib.hid hFb)
        go_end0
        exact ⟨⟨_, rfl⟩, UC.out.aw, UC.out.fr⟩
end
end Go.Proofs.YthklbkgehfgdgaaDoor
