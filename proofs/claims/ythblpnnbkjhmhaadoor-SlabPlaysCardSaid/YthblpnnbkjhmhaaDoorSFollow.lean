/- The contract of the slab's follow. Conditions: the slab's blocks are known. -/
import Derived.Test.YthblpnnbkjhmhaaDoorSBlocks
import Derived.Test.YthblpnnbkjhmhaaDoorSPush
namespace Go.Proofs.YthblpnnbkjhmhaaDoor
open Go.RowKit Go.Shelf
attribute [local go_sem] Oper.semAt_some

theorem Blk.grown {W W' : World} {g : Nat} {t : TypeId} {cs : Array Value} {row : Option Nat} (h : Blk W g t cs) (hg : W.grownBy W' row) (hr : ∀ r, row = some r → ∃ o : Obj, W.heap[r]? = some o ∧ o.isCells = false) : Blk W' g t cs := by
  refine (hg.block g h.lt ?_).trans h
  intro e
  obtain ⟨o, ho, hc⟩ := hr g e.symm
  unfold Blk at h
  rw [h] at ho
  cases ho
  cases hc
theorem blk_drew {W : World} {g : Nat} {t : TypeId} {cs : Array Value} (h : Blk W g t cs) : Blk W.drew g t cs := h
theorem below_drew {B : Nat} {w W : World} (h : Below B w W) : Below B w W.drew := ⟨h.os, h.tape, h.output, h.size, h.block⟩
theorem below_set {B b o : Nat} {w W : World} (h : Below B w W) (hb : B ≤ b) (v : Value) : Below B w (W.setCell ⟨b, o, none⟩ v) := h.trans ((Only.setCellAt W b o v).below hb)
theorem keeps_set {W : World} {g : Nat} {t : TypeId} {cs : Array Value} {v : Value} (_ : Blk W g t cs) : KeepsOthers W (W.drew.setCell ⟨g, 0, none⟩ v) := (KeepsOthers.drew W).trans (KeepsOthers.setCell _ _ _)
theorem kp_set {b1 b2 g o : Nat} {W : World} {v : Value} (h1 : b1 ≠ g) (h2 : b2 ≠ g) : Kp b1 b2 W (W.drew.setCell ⟨g, o, none⟩ v) := ⟨(Only.setCellAt W.drew g o v).block b1 h1, (Only.setCellAt W.drew g o v).block b2 h2⟩
/-- Six new blocks. -/
theorem al6 {w W : World} {a1 a2 a3 a4 a5 a6 : Array Value} {t1 t2 t3 t4 t5 t6 : TypeId}
    (h : W = ((((((w.alloc (.cells a1 t1)).alloc (.cells a2 t2)).alloc (.cells a3 t3)).alloc (.cells a4 t4)).alloc (.cells a5 t5)).alloc (.cells a6 t6))) :
    Blk W w.heap.size t1 a1 ∧ Blk W (w.heap.size + 1) t2 a2 ∧ Blk W (w.heap.size + 1 + 1) t3 a3 ∧ Blk W (w.heap.size + 1 + 1 + 1) t4 a4 ∧ Blk W (w.heap.size + 1 + 1 + 1 + 1) t5 a5 ∧ Blk W (w.heap.size + 1 + 1 + 1 + 1 + 1) t6 a6 ∧
      W.heap.size = w.heap.size + 6 ∧ Below w.heap.size w W := by
  subst h
  have n1 := Blk.new w t1 a1
  have n2 := Blk.new (w.alloc (.cells a1 t1)) t2 a2
  have n3 := Blk.new ((w.alloc (.cells a1 t1)).alloc (.cells a2 t2)) t3 a3
  have n4 := Blk.new (((w.alloc (.cells a1 t1)).alloc (.cells a2 t2)).alloc (.cells a3 t3)) t4 a4
  have n5 := Blk.new ((((w.alloc (.cells a1 t1)).alloc (.cells a2 t2)).alloc (.cells a3 t3)).alloc (.cells a4 t4)) t5 a5
  have n6 := Blk.new (((((w.alloc (.cells a1 t1)).alloc (.cells a2 t2)).alloc (.cells a3 t3)).alloc (.cells a4 t4)).alloc (.cells a5 t5)) t6 a6
  simp only [World.size_alloc] at n1 n2 n3 n4 n5 n6
  exact ⟨((((n1.alloc _).alloc _).alloc _).alloc _).alloc _, (((n2.alloc _).alloc _).alloc _).alloc _, ((n3.alloc _).alloc _).alloc _, (n4.alloc _).alloc _, n5.alloc _, n6, by simp [World.size_alloc],
    ((((((Below.refl _ w).alloc (Nat.le_refl _) _).alloc (by simp) _).alloc (by simp; omega) _).alloc (by simp; omega) _).alloc (by simp; omega) _).alloc (by simp; omega) _⟩

/-- The walk's words on a page's bits. -/
theorem bt_pos (j : Nat) : 0 < bt j := Nat.pow_pos (by decide)
theorem bt_lt {j : Nat} (h : j < 32) : bt j < 4294967296 := Nat.pow_lt_pow_right (a := 2) (by decide) h
theorem and_bt (x j : Nat) : x &&& bt j = if x.testBit j then bt j else 0 := by
  apply Nat.eq_of_testBit_eq
  intro k
  rw [Nat.testBit_and]
  unfold bt
  rw [Nat.testBit_two_pow]
  by_cases e : j = k
  · subst e
    cases h : x.testBit j <;> simp
  · cases h : x.testBit j <;> simp [e]
theorem b_and_t {x j : Nat} (hx : x < 4294967296) (hj : j < 32) (h : x.testBit j = true) : bits .and .u32 (x : Int) ((bt j : Nat) : Int) = ((bt j : Nat) : Int) := by
  rw [u32_and_nat _ _ hx (bt_lt hj), and_bt, h]
  simp
theorem b_and_f {x j : Nat} (hx : x < 4294967296) (hj : j < 32) (h : x.testBit j = false) : bits .and .u32 (x : Int) ((bt j : Nat) : Int) = 0 := by
  rw [u32_and_nat _ _ hx (bt_lt hj), and_bt, h]
  simp
theorem mem_up {c : Nat} (hC : IsC c) (i : Nat) {a : Nat} (h : a ∈ blks i c) : ∃ y ∈ up hC i (512 / c), y.1 = a := by
  obtain ⟨j, hj, rfl⟩ := mem_blks.1 h
  refine ⟨bkAt hC i (512 / c - 1 - j), List.mem_map.2 ⟨512 / c - 1 - j, by simp; omega, rfl⟩, ?_⟩
  show blk i c (512 / c - 1 - (512 / c - 1 - j)) = blk i c j
  congr 1
  omega
theorem idx_lt {i c a : Nat} (hC : IsC c) (h : a ∈ blks i c) : a % 512 / c < 32 := by
  obtain ⟨j, hj, rfl⟩ := mem_blks.1 h
  rw [blk_idx hC hj]
  have := hC.many
  omega
theorem mem_le {i c a : Nat} (hC : IsC c) (h : a ∈ blks i c) : 512 * i ≤ a ∧ a + c ≤ 512 * i + 512 := by
  obtain ⟨j, hj, rfl⟩ := mem_blks.1 h
  exact blk_le hC hj

/-- What follow has found when it has looked at some blocks. -/
def Fo {i c : Nat} (tkn link : Nat) (pre : List (Bk i c)) (lo : Nat) : Prop :=
  ((∀ a ∈ pre, tkn.testBit (a.1 % 512 / c) = true) → lo = 0) ∧ ∀ a ∈ pre, tkn.testBit (a.1 % 512 / c) = false → a.1 ≠ link
theorem Fo.taken {i c tkn link lo : Nat} {pre : List (Bk i c)} {x : Bk i c} (h : Fo tkn link pre lo) (hx : tkn.testBit (x.1 % 512 / c) = true) : Fo tkn link (pre ++ [x]) lo := by
  refine ⟨fun hh => h.1 fun a ha => hh a (by simp [ha]), fun a ha hf => ?_⟩
  rcases List.mem_append.1 ha with ha | ha
  · exact h.2 a ha hf
  · simp at ha; subst ha; rw [hx] at hf; cases hf
theorem Fo.other {i c tkn link lo lo' : Nat} {pre : List (Bk i c)} {x : Bk i c} (h : Fo tkn link pre lo) (hx : tkn.testBit (x.1 % 512 / c) = false) (hl : x.1 ≠ link) : Fo tkn link (pre ++ [x]) lo' := by
  refine ⟨fun hh => ?_, fun a ha hf => ?_⟩
  · have := hh x (by simp)
    rw [hx] at this
    cases this
  rcases List.mem_append.1 ha with ha | ha
  · exact h.2 a ha hf
  · simp at ha; subst ha; exact hl
/-- What follow hands back. -/
def Fw (i c tkn link r : Nat) : Prop := ((∀ a ∈ blks i c, tkn.testBit (a % 512 / c) = true) → r = 0) ∧ (link ∈ blks i c → tkn.testBit (link % 512 / c) = false → r = link) ∧ r ≤ 65536
theorem cell_al {W : World} {a : Addr} {v : Value} (o : Obj) (h : W.cell? a = some v) : (W.alloc o).cell? a = some v := cell_kept h (World.grownBy_alloc W o none) (fun r e => by cases e)
section
variable {w : World} {L : Pt} {n : Nat} {q : Rp} {f : Nat → Int} {t : Nat → Bool}
set_option maxRecDepth 100000 in
set_option maxHeartbeats 2000000 in
theorem follow_any (i c tkn nx link : Nat) (h : Rw w L n q f t) (hi : i < n) (hq : q i = (c, tkn, nx)) (hC : IsC c) (htk : tkn < 4294967296) (hl : link < 18446744073709551616) :
    Calls Tryd.prog 44 #[.pointer (some ⟨L.p, 0, none⟩), .int .i64 i, .int .u64 link] w fun e w' => (∃ r : Nat, e = .returned (.int .i64 r) ∧ Fw i c tkn link r) ∧ Below w.heap.size w w' := by
  have hn := h.small
  have hb := hC.bd
  have h2 := h.h2
  have c0 := h.p0 i hi
  have c1 := h.p1 i hi
  have c2 := h.p2 i hi
  rw [hq] at c0 c1 c2
  dsimp only at c0 c1 c2
  have g2 := cell_al (.cells #[.int .i64 0] 3) (cell_al (.cells #[.int .u64 link] 84) h2)
  have g3 := cell_al (.cells #[.int .i64 0] 3) (cell_al (.cells #[.int .u64 link] 84) c0)
  have g4 := cell_al (.cells #[.int .i64 0] 3) (cell_al (.cells #[.int .u64 link] 84) c1)
  have g5 := cell_al (.cells #[.int .i64 0] 3) (cell_al (.cells #[.int .u64 link] 84) c2)
  have H := Lib.hid h
  clear h h2 c0 c1 c2
  refine (callsIn_wide (n := 3)).1 ?_
  refine callsIn_of_wp_marks Tryd.func44 rfl trivial ?_ rfl
  simp only [Tryd.ntmps44, List.size_toArray, List.length_cons, List.length_nil, Nat.reduceAdd, Nat.reduceSub, Array.replicate_succ, Array.replicate_zero, List.push_toArray, List.append_toArray, List.nil_append, List.cons_append]
  gi_wp2_with (refine ⟨trivial, ?_⟩; gi_at_call 42; refine (callsIn_wide.2 (blocks_any i c)).mono ?_; rintro e w' ⟨rfl, rfl⟩)
  obtain ⟨W0, hW0⟩ : ∃ W0, W0 = ((((((w.alloc (.cells #[.int .u64 link] 84)).alloc (.cells #[.int .i64 0] 3)).alloc (.cells #[.int .i64 c, .int .u32 tkn, .int .i64 nx] 77)).alloc (.cells #[.int .i64 0] 3)).alloc (.cells #[.int .i64 i] 3)).alloc (.cells #[.int .i64 c] 3)) := ⟨_, rfl⟩
  rw [← hW0]
  obtain ⟨B0, B1, B2, B3, B4, B5, hsz, hBl⟩ := al6 hW0
  clear hW0 g2 g3 g4 g5
  refine wpIn_rangeFunc_ownG rfl (by omega) (gf := 50) (lb := #[.pointer (some ⟨w.heap.size + 1 + 1 + 1 + 1, 0, none⟩), .pointer (some ⟨w.heap.size + 1 + 1 + 1 + 1 + 1, 0, none⟩)]) rfl trivial (enters_of Tryd.func50 (by kernel_rfl) rfl)
    (blocks_stops 2 i c _ _ (by omega) hC (by omega) B4 B5) Kp.trans (Kp.put (by omega) (by omega)) (Below.refl _ _) (fun _ => rfl)
    (fun pre W => (∃ lo : Nat, Blk W (w.heap.size + 1 + 1 + 1) 3 #[.int .i64 lo] ∧ Fo tkn link pre lo ∧ lo ≤ 65536) ∧ Blk W w.heap.size 84 #[.int .u64 link] ∧ Blk W (w.heap.size + 1) 3 #[.int .i64 0] ∧ Blk W (w.heap.size + 1 + 1) 77 #[.int .i64 c, .int .u32 tkn, .int .i64 nx] ∧ Below w.heap.size w W)
    (fun cd pre W => (cd = .ret ∧ ∃ x ∈ pre, x.1 = link ∧ tkn.testBit (x.1 % 512 / c) = false) ∧ Blk W (w.heap.size + 1) 3 #[.int .i64 link] ∧ Below w.heap.size w W)
    (fun pre W W' row hI hg hr => ⟨hI.1.elim fun lo h => ⟨lo, h.1.grown hg fun r e => (hr r e).2, h.2⟩, hI.2.1.grown hg fun r e => (hr r e).2, hI.2.2.1.grown hg fun r e => (hr r e).2, hI.2.2.2.1.grown hg fun r e => (hr r e).2, hI.2.2.2.2.grown hg (by have := hBl.size; have := hI.2.2.2.2.size; omega) fun r e => by have := (hr r e).1; omega⟩)
    (fun cd pre W W' row hI hg hr => ⟨hI.1, hI.2.1.grown hg fun r e => (hr r e).2, hI.2.2.grown hg (by have := hI.2.2.size; omega) fun r e => by have := (hr r e).1; omega⟩)
    ⟨⟨0, B3, ⟨fun _ => rfl, fun _ h => (nomatch h)⟩, by omega⟩, B0, B1, B2, hBl⟩
    (fun x => { tmps := #[.pointer (some ⟨L.p, 0, none⟩), .int .i64 i, .int .u64 link, undef, undef, .pointer (some ⟨w.heap.size, 0, none⟩), .pointer (some ⟨w.heap.size + 1, 0, none⟩), .pointer (some ⟨w.heap.size + 1 + 1, 0, none⟩), .pointer (some ⟨w.heap.size + 1 + 1 + 1, 0, none⟩), .int .i64 (x.1 : Nat), .pointer (some ⟨L.p, 0, none⟩), .pointer (some ⟨L.p, 0, none⟩), .pointer (some ⟨L.p, 2, none⟩), .slice (some ⟨L.gp, 0, none⟩) n n, .int .i64 i, .pointer (some ⟨L.gp, i * 3, none⟩), .agg #[.int .i64 c, .int .u32 tkn, .int .i64 nx], .int .i64 i, .pointer (some ⟨w.heap.size + 1 + 1, 0, none⟩), .int .i64 c, .func (.func 50) #[] #[.pointer (some ⟨w.heap.size + 1 + 1 + 1 + 1, 0, none⟩), .pointer (some ⟨w.heap.size + 1 + 1 + 1 + 1 + 1, 0, none⟩)], .int .i64 (x.1 : Nat), undef, undef, undef, undef, undef, undef, undef, undef, undef, undef, undef, undef, undef], defers := [] }) ?assign ?body ?done ?stop
  case assign =>
    intro l x W K hK
    gi_wp2
    exact hK
  case body =>
    rintro l pre ⟨a, ha⟩ W ⟨⟨lo, hL, hFo, hlo⟩, k0, k1, k2, hB⟩ _
    have hj := idx_lt hC ha
    have hle := mem_le hC ha
    have hmx : Tryd.prog.follows .mixedOrders = true := by kernel_rfl
    have hd : 1 ≤ 3 - 1 - 1 := by omega
    have q0 : W.cell? ⟨w.heap.size, 0, none⟩ = some (.int .u64 link) := k0.cell 0
    have q2 : W.cell? ⟨w.heap.size + 1 + 1, 0, none⟩ = some (.int .i64 c) := k2.cell 0
    have q3 : W.cell? ⟨w.heap.size + 1 + 1, 1, none⟩ = some (.int .u32 tkn) := k2.cell 1
    have q4 : W.cell? ⟨w.heap.size + 1, 0, none⟩ = some (.int .i64 0) := k1.cell 0
    have q5 : W.cell? ⟨w.heap.size + 1 + 1 + 1, 0, none⟩ = some (.int .i64 lo) := hL.cell 0
    have f4 := k1.frozen 0
    have f5 := hL.frozen 0
    have hwa : IntKind.u64.wrap (a : Int) = a := by rw [IntKind.wrap_u64]; omega
    have HFo := Lib.hid hFo
    have K0 := Lib.hid k0
    have K1 := Lib.hid k1
    have K2 := Lib.hid k2
    have KL := Lib.hid hL
    have HB := Lib.hid hB
    have HC := Lib.hid hC
    have Q2 := Lib.hid q2
    clear hFo k0 k1 k2 hL hB B0 B1 B2 B3 B4 B5
    dsimp only
    generalize hjj : a % 512 / c = j at hj
    by_cases tb : tkn.testBit j = true
    · have hb1 := b_and_t htk hj tb
      have hb2 : ¬ ((bt j : Nat) : Int) = 0 := by have := bt_pos j; omega
      have TB := Lib.hid tb
      clear tb
      gi_wp2
      gi_region_with_o (refine ⟨trivial, ?_⟩; gi_at_call 36; refine (CallsIn.inRound l (callsIn_wide.2 (bit_any (w := W.drew) _ 0 a c Q2.out HC.out (by omega)))).mono ?_; rintro e w' ⟨rfl, rfl⟩; rw [hjj])
      all_goals
        gi_wp2
        exact ⟨(KeepsOthers.drew _).from _, ⟨rfl, rfl⟩, ⟨lo, KL.out, HFo.out.taken (by dsimp only; rw [hjj]; exact TB.out), hlo⟩, K0.out, K1.out, K2.out, below_drew HB.out⟩
    · have tb' : tkn.testBit j = false := by simpa using tb
      have hb1 := b_and_f htk hj tb'
      have TB := Lib.hid tb'
      clear tb tb'
      by_cases hal : a = link
      · subst hal
        gi_wp2
        gi_region_with_o (refine ⟨trivial, ?_⟩; gi_at_call 36; refine (CallsIn.inRound l (callsIn_wide.2 (bit_any (w := W.drew) _ 0 a c Q2.out HC.out (by omega)))).mono ?_; rintro e w' ⟨rfl, rfl⟩; rw [hjj])
        all_goals
          gi_wp2
          refine ⟨(keeps_set (W := W) K1.out).from _, ⟨rfl, ⟨a, ha⟩, by simp, rfl, by dsimp only; rw [hjj]; exact TB.out⟩, ?_, ?_⟩
          · exact (blk_drew K1.out).put 0 (.int .i64 (a : Nat))
          · exact below_set (below_drew HB.out) (by omega) _
      · have hal' : ¬ ((a : Nat) : Int) = link := by omega
        have HAL := Lib.hid hal
        clear hal
        gi_wp2
        gi_region_with_o (refine ⟨trivial, ?_⟩; gi_at_call 36; refine (CallsIn.inRound l (callsIn_wide.2 (bit_any (w := W.drew) _ 0 a c Q2.out HC.out (by omega)))).mono ?_; rintro e w' ⟨rfl, rfl⟩; rw [hjj])
        all_goals
          gi_wp2
          refine ⟨(keeps_set (W := W) KL.out).from _, kp_set (by omega) (by omega), ⟨a, (blk_drew KL.out).put 0 (.int .i64 (a : Nat)), HFo.out.other (by dsimp only; rw [hjj]; exact TB.out) HAL.out, by omega⟩, ?_, ?_, ?_, ?_⟩
          · exact (blk_drew K0.out).only (Only.setCellAt _ _ _ _) (by omega)
          · exact (blk_drew K1.out).only (Only.setCellAt _ _ _ _) (by omega)
          · exact (blk_drew K2.out).only (Only.setCellAt _ _ _ _) (by omega)
          · exact below_set (below_drew HB.out) (by omega) _
  case done =>
    rintro D ys W hD rfl ⟨⟨lo, hL, hFo, hlo⟩, k0, k1, k2, hB⟩ hK
    have q5 : W.cell? ⟨w.heap.size + 1 + 1 + 1, 0, none⟩ = some (.int .i64 lo) := hL.cell 0
    have q4 : W.cell? ⟨w.heap.size + 1, 0, none⟩ = some (.int .i64 0) := k1.cell 0
    have f4 := k1.frozen 0
    have HFo := Lib.hid hFo
    have K1 := Lib.hid k1
    have HB := Lib.hid hB
    clear hFo k0 k1 k2 hL hB B0 B1 B2 B3 B4 B5
    gi_wp2
    have hK' := (KeepsOthers.setCell W ⟨w.heap.size + 1, 0, none⟩ (.int .i64 (lo : Nat))).same D _ hK rfl
    refine ⟨by simp, .inl ⟨_, _, rfl, run_takeDeferred hK', ?_⟩⟩
    have hc5 := cell_kept (World.cell?_setCell_same' W ⟨w.heap.size + 1, 0, none⟩ (.int .i64 (lo : Nat)) (by rw [q4]; rfl)) (grownBy_putObj' _ D (.deferred none)) (fun r e => by cases e; exact ⟨_, hK', rfl⟩)
    refine ⟨.int .i64 lo, ?_, ⟨lo, rfl, ?_⟩, (below_set HB.out (by omega) _).trans (belowK_b (w := w) (Nat.le_refl _) _ D _ _ (by omega) hK' rfl rfl)⟩
    · simp [results, Tryd.f44, go_sem, hc5]
    · refine ⟨fun hh => HFo.out.1 fun a _ => hh a.1 a.2, fun hm hf => ?_, hlo⟩
      obtain ⟨y, hy, e⟩ := mem_up hC i hm
      exact absurd e (HFo.out.2 y hy (by rw [e]; exact hf))
  case stop =>
    rintro D cd pre W hD ⟨k, hk, hpre⟩ ⟨⟨rfl, x, hx, hxl, hxf⟩, k1, hB⟩ hK
    have q4 : W.cell? ⟨w.heap.size + 1, 0, none⟩ = some (.int .i64 link) := k1.cell 0
    have HB := Lib.hid hB
    clear k1 hB B0 B1 B2 B3 B4 B5
    gi_wp2
    refine ⟨by simp, .inl ⟨_, _, rfl, run_takeDeferred hK, ?_⟩⟩
    have hc5 := cell_kept q4 (grownBy_putObj' _ D (.deferred none)) (fun r e => by cases e; exact ⟨_, hK, rfl⟩)
    refine ⟨.int .i64 link, ?_, ⟨link, rfl, ?_⟩, HB.out.trans (belowK_b (w := w) (Nat.le_refl _) W D _ _ (by omega) hK rfl rfl)⟩
    · simp [results, Tryd.f44, go_sem, hc5]
    · have hm := mem_le hC x.2
      refine ⟨fun hh => ?_, fun _ _ => rfl, by omega⟩
      have := hh x.1 x.2
      rw [hxf] at this
      cases this
end
end Go.Proofs.YthblpnnbkjhmhaaDoor
