/- Words for bytes in memory: a slice that can be read; a row of bytes that the call made, and append to it. No condition. -/
import Derived.Test.YtcedjjolikmbbaaDoorProg
import Derived.WalkLawsBesides
import Derived.Test.YtcedjjolikmbbaaDoorWMath
import Derived.Test.YtcedjjolikmbbaaDoorWords
import Derived.Deep.AppendSrc
import Derived.Laws.AppendOwn
import Derived.OwnWalk
import Derived.Laws.IdiomStrings
import Derived.Laws.RangeString
import Derived.Laws.RangeAny
import Derived.Lib.Hide
namespace Go.Proofs.YtcedjjolikmbbaaDoor
open Go.RowKit

def bc (bs : List Nat) : List Value := bs.map fun n : Nat => Value.int .u8 (n : Int)
theorem bc_app (xs ys : List Nat) : bc (xs ++ ys) = bc xs ++ bc ys := by simp [bc]
theorem bc_len (xs : List Nat) : (bc xs).length = xs.length := by simp [bc]
theorem bc_one (xs : List Nat) : ∀ u ∈ bc xs, u.oneCell' = true := by
  intro u hu
  simp only [bc, List.mem_map] at hu
  obtain ⟨_, _, rfl⟩ := hu
  rfl
theorem bc_at {xs : List Nat} {j : Nat} {u : Value} (h : (bc xs)[j]? = some u) : ∃ y, xs[j]? = some y ∧ u = .int .u8 (y : Int) := by
  simp only [bc, List.getElem?_map, Option.map_eq_some_iff] at h
  obtain ⟨y, h1, h2⟩ := h
  exact ⟨y, h1, h2.symm⟩
theorem addr_add (b o j : Nat) : Addr.add ⟨b, o, none⟩ j = ⟨b, o + j, none⟩ := by unfold Addr.add; split <;> simp_all

/-- A slice of k bytes, bs, that can be read. -/
structure Rd (w : World) (A : Option Addr) (k cap : Nat) (bs : List Nat) : Prop where
  cells : ∀ (i y : Nat), bs[i]? = some y → ∃ b o, A = some ⟨b, o, none⟩ ∧ b < w.heap.size ∧ w.cell? ⟨b, o + i, none⟩ = some (.int .u8 (y : Int)) ∧ y < 256
  len : bs.length = k
  le : k ≤ cap
  max : cap ≤ 9223372036854775807
  nil : A = none → cap = 0

section
variable {w w' : World} {A : Option Addr} {k cap B : Nat} {bs : List Nat}
theorem Rd.byt (h : Rd w A k cap bs) : Byt bs := by
  intro x hx
  obtain ⟨i, hi⟩ := List.mem_iff_getElem?.1 hx
  obtain ⟨_, _, _, _, _, hy⟩ := h.cells i x hi
  exact hy
theorem Rd.below (h : Rd w A k cap bs) (hb : Below B w w') (hB : w.heap.size ≤ B) : Rd w' A k cap bs :=
  ⟨fun i y hi => by
    obtain ⟨b, o, e, hl, hc, hy⟩ := h.cells i y hi
    exact ⟨b, o, e, Nat.lt_of_lt_of_le hl hb.size, (hb.cell (p := ⟨b, o + i, none⟩) (by simp only; omega)).trans hc, hy⟩, h.len, h.le, h.max, h.nil⟩
theorem Rd.base (h : Rd w A k cap bs) (hk : 0 < k) : ∃ b o, A = some ⟨b, o, none⟩ ∧ b < w.heap.size ∧ ∀ i, i < k → w.cell? ⟨b, o + i, none⟩ = some (.int .u8 ((bs.getD i 0 : Nat) : Int)) := by
  have hl := h.len
  obtain ⟨b, o, e, hb, _⟩ := h.cells 0 (bs[0]'(by omega)) (List.getElem?_eq_getElem _)
  refine ⟨b, o, e, hb, fun i hi => ?_⟩
  obtain ⟨b', o', e', _, hc, _⟩ := h.cells i (bs[i]'(by omega)) (List.getElem?_eq_getElem _)
  rw [e] at e'
  injection e' with e'
  injection e' with e1 e2
  subst e1
  subst e2
  rw [hc, List.getD_eq_getElem?_getD, List.getElem?_eq_getElem (show i < bs.length by omega)]
  rfl
end

/-- The bytes as a string. -/
def sb (bs : List Nat) : ByteArray := ⟨(bs.map fun n => UInt8.ofNat n).toArray⟩
theorem sb_size (bs : List Nat) : (sb bs).size = bs.length := by simp [sb, ByteArray.size]
theorem sb_inj {xs ys : List Nat} (hx : Byt xs) (hy : Byt ys) (h : sb xs = sb ys) : xs = ys := by
  have e : xs.map (fun n => UInt8.ofNat n) = ys.map (fun n => UInt8.ofNat n) := by
    have := congrArg (fun b : ByteArray => b.data.toList) h
    simpa [sb] using this
  have back : ∀ l : List Nat, Byt l → (l.map (fun n => UInt8.ofNat n)).map UInt8.toNat = l := by
    intro l hl
    rw [List.map_map]
    conv => rhs; rw [← List.map_id l]
    apply List.map_congr_left
    intro x hxl
    simp [Nat.mod_eq_of_lt (hl x hxl)]
  rw [← back xs hx, ← back ys hy, e]
def ofS (s : ByteArray) : List Nat := s.data.toList.map UInt8.toNat
theorem ofS_byt (s : ByteArray) : Byt (ofS s) := by
  intro x hx
  simp only [ofS, List.mem_map] at hx
  obtain ⟨a, _, rfl⟩ := hx
  exact a.toNat_lt
theorem sb_ofS (s : ByteArray) : sb (ofS s) = s := by
  obtain ⟨⟨l⟩⟩ := s
  simp [sb, ofS, List.map_map, Function.comp_def]
theorem ofS_sb {bs : List Nat} (h : Byt bs) : ofS (sb bs) = bs := sb_inj (ofS_byt _) h (sb_ofS _)
theorem sb_cells {bs : List Nat} (h : Byt bs) : byteCells (sb bs) = bc bs := by
  conv => rhs; rw [← ofS_sb h]
  simp [byteCells, bc, ofS, List.map_map, Function.comp_def]
theorem sb_at {bs : List Nat} (h : Byt bs) (i : Nat) (hi : i < (sb bs).size) : ((sb bs)[i]'hi).toNat = bs.getD i 0 := by
  have hl : i < bs.length := by rw [sb_size] at hi; exact hi
  have e : (sb bs)[i]'hi = UInt8.ofNat (bs[i]'hl) := by
    show (sb bs).data[i]'_ = _
    simp [sb]
  rw [e, List.getD_eq_getElem?_getD, List.getElem?_eq_getElem hl]
  have := h _ (List.getElem_mem hl)
  simp [Nat.mod_eq_of_lt this]

theorem run_str {w : World} {A : Option Addr} {k cap : Nat} {bs : List Nat} (h : Rd w A k cap bs) (hne : 0 < k) :
    (convert 40 9 (.slice A k cap)).run Tryd.prog w = .ok (.string (sb bs)) w := by
  obtain ⟨b, o, rfl, _, hc⟩ := h.base hne
  have hl := h.len
  have hB := h.byt
  have hr := run_convert_bytes_back (P := Tryd.prog) w 40 9 5 ⟨b, o, none⟩ cap (bs.map fun n => UInt8.ofNat n) Tryd.underlying40 Tryd.underlying5 Tryd.underlying9 (by
    intro j hj
    have hj' : j < k := by simpa [hl] using hj
    rw [addr_add, hc j hj']
    have h1 := byt_at hB j
    have hlt : j < bs.length := by omega
    rw [List.getD_eq_getElem?_getD, List.getElem?_eq_getElem hlt] at h1 ⊢
    simp at h1 ⊢
    omega)
  simp only [List.length_map, hl] at hr
  exact hr

/-- A row of bytes, bs, that the call made from block B on. -/
def Ob (w : World) (B : Nat) (v : Value) (bs : List Nat) : Prop := w.ownsRow B 5 1 v bs.length (bc bs)
section
variable {w w' : World} {B : Nat} {v : Value} {bs : List Nat}
theorem Ob.form (h : Ob w B v bs) (hB : Byt bs) : ∃ A k cap, v = .slice A k cap ∧ Rd w A k cap bs := by
  rcases h.2 with ⟨h1, h2⟩ | ⟨g, cap, cur, h1, hb, hg, hle, hmax, hsz, htk⟩
  · have : bs = [] := List.eq_nil_of_length_eq_zero h2
    subst this
    exact ⟨none, 0, 0, h1, fun i y hi => by simp at hi, rfl, Nat.le_refl _, by omega, fun _ => rfl⟩
  · refine ⟨some ⟨g, 0, none⟩, bs.length, cap, h1, ⟨fun i y hi => ?_, rfl, hle, by simpa [maxLen] using hmax, fun e => by cases e⟩⟩
    refine ⟨g, 0, rfl, (Array.getElem?_eq_some_iff.1 hg).1, ?_, hB y (List.mem_of_getElem? hi)⟩
    have hc := h.cells (g := g) (by rw [h1]; rfl) i (.int .u8 (y : Int)) (by simp [bc, hi])
    rw [addr_add] at hc
    exact hc
theorem Ob.nil (w : World) (B : Nat) : Ob w B (.slice none 0 0) [] := World.ownsRow_nil _ _ _ _
theorem Ob.alloc (h : Ob w B v bs) (o : Obj) : Ob (w.alloc o) B v bs := World.ownsRow.alloc h o
theorem Ob.block (h : Ob w B v bs) {k : Nat} (hk : v.ownBlock = some k) : B ≤ k := (World.ownsRow.lt h k hk).1
theorem Ob.less {B' : Nat} (h : Ob w B v bs) (hB : B' ≤ B) : Ob w B' v bs := by
  refine ⟨h.1, ?_⟩
  rcases h.2 with h1 | ⟨g, cap, cur, h1, hb, rest⟩
  · exact .inl h1
  · exact .inr ⟨g, cap, cur, h1, by omega, rest⟩
end

theorem info8 : (Tryd.prog.info? 5).map (fun i => (i.zero, i.size, i.bytes)) = some (some (.int .u8 0), 1, 1) := by kernel_rfl

theorem cap_le {need old : Nat} (h : old < need) : Builtin.nextslicecap need old ≤ need + need / 4 + 600 := by
  unfold Builtin.nextslicecap
  split
  · omega
  · split
    · omega
    · rw [growBy_four]
      repeat' split
      all_goals omega

/-- append onto a row of bytes that the call made, whatever the source. -/
theorem run_app {w : World} (base : Nat) (tx ty : TypeId) (v : Value) (xs : List Nat) (hown : Ob w base v xs) (x : Value) (news : List Nat)
    (hs : Src Tryd.prog 1 tx x news.length (bc news) w) (hbig : xs.length + news.length ≤ 140737488400000) (hbase : base ≤ w.heap.size) :
    ∃ v' w', (Builtin.append_ #[40, tx] ty #[v, x]).run Tryd.prog w = .ok v' w' ∧ Ob w' base v' (xs ++ news) ∧ w.grownBy w' v.ownBlock := by
  obtain ⟨i, hi, hz, hsz, hby⟩ := info_parts info8
  have ht := Tryd.underlying40
  have hs' : Src Tryd.prog i.size tx x news.length (bc news) w := by rw [hsz]; exact hs
  have hlen : (bc xs ++ bc news).length = xs.length + news.length := by rw [List.length_append, bc_len, bc_len]
  have grown : ∀ (old : Nat), old < xs.length + news.length → ∀ (row : Option Nat),
      Ob (w.drew.alloc (.cells ((bc xs ++ bc news).toArray ++ Builtin.zeroCells (Value.int .u8 0).cells (grownCap w (xs.length + news.length) old 5 - (xs.length + news.length))) 5)) base
        (.slice (some ⟨w.heap.size, 0, none⟩) (xs.length + news.length) (grownCap w (xs.length + news.length) old 5)) (xs ++ news) ∧
      w.grownBy (w.drew.alloc (.cells ((bc xs ++ bc news).toArray ++ Builtin.zeroCells (Value.int .u8 0).cells (grownCap w (xs.length + news.length) old 5 - (xs.length + news.length))) 5)) row := by
    intro old ho row
    have hge := grownCap_ge w (xs.length + news.length) old 5
    have hcm : grownCap w (xs.length + news.length) old 5 ≤ maxLen := grownCap_le_maxLen w _ old _ (by unfold maxLen; omega)
    refine ⟨?_, ⟨rfl, rfl, rfl, by simp, fun k hk _ => Below.heap_alloc w.drew _ k hk⟩⟩
    unfold Ob
    rw [List.length_append, bc_app]
    refine ⟨by rw [hlen, Nat.mul_one], .inr ⟨w.heap.size, _, _, rfl, hbase, heap_alloc_new w.drew _, hge, hcm, ?_, ?_⟩⟩
    · simp only [Array.size_append, List.size_toArray, size_zeroCells, hlen]
      simp [Value.cells]
      omega
    · simp only [Array.toList_append]
      rw [Nat.mul_one, ← hlen]
      exact List.take_left
  have h63 : ((xs.length + news.length : Nat) : Int) ≤ 9223372036854775807 := by omega
  rcases hown.2 with ⟨rfl, hx⟩ | ⟨g, cap, cur, rfl, hbg, hg, hnc, hcm, hcs, htake⟩
  · have hx0 : xs = [] := List.eq_nil_of_length_eq_zero hx
    subst hx0
    by_cases hm : news.length = 0
    · have hn : news = [] := List.eq_nil_of_length_eq_zero hm
      subst hn
      refine ⟨.slice none 0 0, w, ?_, Ob.nil _ _, ⟨rfl, rfl, rfl, Nat.le_refl _, fun _ _ _ => rfl⟩⟩
      have hl := hs'.len
      have hc := hs'.cells
      simp only [List.length_nil] at hl hc
      rcases hs'.kind with ⟨e', hk⟩ | hk <;> simp [Builtin.append_, run_underlying ht, run_underlying hk, sizeOf, typeInfo, hi, hl, hc]
    · have hr := run_append_grow_src (P := Tryd.prog) w 40 tx ty 5 i (.int .u8 0) ht hi hz none 0 0 [] (by simp [Builtin.firstCells]) x news.length (bc news) hs' (by omega) (by simpa using h63) (by
        have := cap_le (need := 0 + news.length) (old := 0) (by omega)
        simp only [List.length_nil] at hbig
        rw [hby]
        omega)
      have hgr := grown 0 (by simp only [List.length_nil]; omega) (Value.ownBlock (.slice none 0 0))
      simp only [List.length_nil, Nat.zero_add, bc, List.map_nil, List.nil_append] at hgr hr ⊢
      exact ⟨_, _, hr, hgr.1, hgr.2⟩
  · by_cases hroom : xs.length + news.length ≤ cap
    · have hcs' : cur.size = cap := by rw [hcs, Nat.mul_one]
      have hf := hs.cells
      have hst := run_storeCells_at Tryd.prog g (xs.length * i.size) 5 (bc news) 0 cur w hg (by simp [bc_len, hsz, hcs']; omega) (bc_one _)
      have hr : (Builtin.append_ #[40, tx] ty #[.slice (some ⟨g, 0, none⟩) xs.length cap, x]).run Tryd.prog w =
          .ok (.slice (some ⟨g, 0, none⟩) (xs.length + news.length) cap) (w.setRow g (cur.toList.take xs.length ++ bc news ++ cur.toList.drop (xs.length + news.length)).toArray) := by
        simp only [Nat.add_zero, hsz, Nat.mul_one, bc_len] at hst
        rcases hs'.kind with ⟨e', hk⟩ | hk <;> simp [Builtin.append_, run_underlying ht, run_underlying hk, sizeOf, typeInfo, hi, hs'.len, hroom, hf, hsz, addr_add, hst]
      refine ⟨_, _, hr, ?_, ⟨rfl, rfl, rfl, by simp, fun k _ hk => setRow_other w g k _ (fun e => hk (by simp [Value.ownBlock, e]))⟩⟩
      unfold Ob
      rw [List.length_append, bc_app]
      refine ⟨by rw [hlen, Nat.mul_one], .inr ⟨g, cap, _, rfl, hbg, setRow_heap w g cur _ 5 _ hg, hroom, hcm, ?_, ?_⟩⟩
      · simp only [List.size_toArray, List.length_append, List.length_take, List.length_drop, Array.length_toList, bc_len]
        omega
      · rw [Nat.mul_one] at htake
        rw [htake, Nat.mul_one, ← hlen]
        exact List.take_left
    · have holds : ∀ j u, (bc xs)[j]? = some u → w.cell? ((⟨g, 0, none⟩ : Addr).add j) = some u := World.ownsRow.cells hown (g := g) rfl
      have hold := run_firstCells_some (P := Tryd.prog) w.drew i.size xs.length ⟨g, 0, none⟩ xs.length cap (bc xs) (by rw [bc_len, hsz, Nat.mul_one]) (by simpa using holds)
      have hr := run_append_grow_src (P := Tryd.prog) w 40 tx ty 5 i (.int .u8 0) ht hi hz (some ⟨g, 0, none⟩) xs.length cap (bc xs) hold x news.length (bc news) hs' (by omega) h63 (by
        have := cap_le (need := xs.length + news.length) (old := cap) (by omega)
        rw [hby]
        omega)
      have hgr := grown cap (by omega) (Value.ownBlock (.slice (some ⟨g, 0, none⟩) xs.length cap))
      exact ⟨_, _, hr, hgr.1, hgr.2⟩

theorem wpList_app {w : World} {ops : Array Oper} {rest : List Oper} {o : Oper} {a : Act} {Q : Exit → Act → World → Prop} (hgd : o.guard = none) (s x : Operand) (tx : TypeId)
    (ho : o.op = .call { callee := .builtin .append, args := #[s, x], argTypes := #[40, tx] })
    (base : Nat) (v : Value) (xs : List Nat) (hs : a.eval s = v) (hown : Ob w base v xs) (xv : Value) (news : List Nat) (hx : a.eval x = xv)
    (hsrc : Src Tryd.prog 1 tx xv news.length (bc news) w) (hbig : xs.length + news.length ≤ 140737488400000) (hbase : base ≤ w.heap.size)
    (h : ∀ v' w', Ob w' base v' (xs ++ news) → Below base w w' → wpList Tryd.prog ops Q rest (a.put o.dst v') w') : wpList Tryd.prog ops Q (o :: rest) a w := by
  obtain ⟨v', w', hr, h2, h3⟩ := run_app base tx o.type v xs hown xv news hsrc hbig hbase
  have hb : Below base w w' := (Below.refl base w).grown h3 hbase fun k hk => hown.block hk
  refine wpList_plain hgd fun _ hK => ?_
  unfold Oper.wp execOp
  simp only [ho, resolve, invoke, builtin, Sem.run_bind, Sem.run_pure, Result.andThen_ok, List.map_toArray, List.map_cons, List.map_nil, hs, hx, hr]
  exact hK _ _ (h v' w' h2 hb)

theorem src_rd {w : World} {A : Option Addr} {k cap : Nat} {bs : List Nat} (h : Rd w A k cap bs) : Src Tryd.prog 1 40 (.slice A k cap) bs.length (bc bs) w := by
  rcases Nat.eq_zero_or_pos k with h0 | hp
  · have hb : bs = [] := List.eq_nil_of_length_eq_zero (by rw [h.len]; exact h0)
    subst hb
    subst h0
    cases A with
    | none => exact Src.ofNil w Tryd.underlying40 cap
    | some a => exact Src.ofSlice w Tryd.underlying40 a 0 cap [] rfl (fun j u hu => by simp at hu) (fun u hu => by cases hu)
  · obtain ⟨b, o, rfl, _, hc⟩ := h.base hp
    rw [h.len]
    refine Src.ofSlice w Tryd.underlying40 ⟨b, o, none⟩ k cap (bc bs) (by rw [bc_len, h.len, Nat.mul_one]) (fun j u hu => ?_) (bc_one _)
    obtain ⟨y, hy, rfl⟩ := bc_at hu
    have hj : j < bs.length := by
      rcases Nat.lt_or_ge j bs.length with hlt | hge
      · exact hlt
      · rw [List.getElem?_eq_none hge] at hy; cases hy
    rw [addr_add, hc j (by rw [← h.len]; exact hj), List.getD_eq_getElem?_getD, hy]
    rfl
theorem src_one (w : World) (y : Nat) : Src Tryd.prog 1 40 (.slice (some ⟨w.heap.size, 0, none⟩) 1 1) ([y] : List Nat).length (bc [y]) (w.alloc (.cells #[.int .u8 (y : Int)] 5)) := by
  refine Src.ofSlice _ Tryd.underlying40 ⟨w.heap.size, 0, none⟩ 1 1 (bc [y]) rfl (fun j u hu => ?_) (bc_one _)
  match j, hu with
  | 0, hu =>
    simp [bc] at hu
    subst hu
    simp [Addr.add]
theorem src_str (w : World) {bs : List Nat} (h : Byt bs) : Src Tryd.prog 1 9 (.string (sb bs)) bs.length (bc bs) w := by
  have := Src.ofString (P := Tryd.prog) w Tryd.underlying9 (sb bs)
  rw [sb_size, sb_cells h] at this
  exact this
end Go.Proofs.YtcedjjolikmbbaaDoor
