/- append onto a row of numbers, whatever the source. No condition. -/
import Derived.Test.YtnkjlocjfljjlaaTLayout
namespace Go.Proofs.Ytnkjlocjfljjlaa
open Go.RowKit

/-- append onto a row of numbers that the call made, whatever the source. -/
theorem run_iapps {w : World} (base : Nat) (tx ty : TypeId) (v : Value) (xs : List Int) (hown : Oi w base v xs) (x : Value) (news : List Int)
    (hs : Src Try.prog 1 tx x news.length (ic news) w) (hbig : xs.length + news.length ≤ 1000000) (hbase : base ≤ w.heap.size) :
    ∃ v' w', (Builtin.append_ #[33, tx] ty #[v, x]).run Try.prog w = .ok v' w' ∧ Oi w' base v' (xs ++ news) ∧ w.grownBy w' v.ownBlock := by
  obtain ⟨i, hi, hz, hsz, hby⟩ := info_parts info64
  have ht := Try.underlying33
  have hs' : Src Try.prog i.size tx x news.length (ic news) w := by rw [hsz]; exact hs
  have hlen : (ic xs ++ ic news).length = xs.length + news.length := by rw [List.length_append, ic_len, ic_len]
  have grown : ∀ (old : Nat), old < xs.length + news.length → ∀ (row : Option Nat),
      Oi (w.drew.alloc (.cells ((ic xs ++ ic news).toArray ++ Builtin.zeroCells (Value.int .i64 0).cells (grownCap w (xs.length + news.length) old 3 - (xs.length + news.length))) 3)) base
        (.slice (some ⟨w.heap.size, 0, none⟩) (xs.length + news.length) (grownCap w (xs.length + news.length) old 3)) (xs ++ news) ∧
      w.grownBy (w.drew.alloc (.cells ((ic xs ++ ic news).toArray ++ Builtin.zeroCells (Value.int .i64 0).cells (grownCap w (xs.length + news.length) old 3 - (xs.length + news.length))) 3)) row := by
    intro old ho row
    have hge := grownCap_ge w (xs.length + news.length) old 3
    have hcm : grownCap w (xs.length + news.length) old 3 ≤ maxLen := grownCap_le_maxLen w _ old _ (by unfold maxLen; omega)
    refine ⟨?_, ⟨rfl, rfl, rfl, by simp, fun k hk _ => Below.heap_alloc w.drew _ k hk⟩⟩
    unfold Oi
    rw [List.length_append, ic_app]
    refine ⟨by rw [hlen, Nat.mul_one], .inr ⟨w.heap.size, _, _, rfl, hbase, heap_alloc_new w.drew _, hge, hcm, ?_, ?_⟩⟩
    · simp only [Array.size_append, List.size_toArray, size_zeroCells, hlen]
      simp [Value.cells]
      omega
    · simp only [Array.toList_append]
      rw [Nat.mul_one, ← hlen]
      exact List.take_left
  have h63 : ((xs.length + news.length : Nat) : Int) ≤ 9223372036854775807 := by omega
  rcases hown.2 with ⟨rfl, hx⟩ | ⟨g, cap, cur, rfl, hbg, hg, hnc, hcm, hcs, htake⟩
  · have hx0 : xs = [] := List.eq_nil_of_length_eq_zero hx
    subst hx0
    by_cases hm : news.length = 0
    · have hn : news = [] := List.eq_nil_of_length_eq_zero hm
      subst hn
      refine ⟨.slice none 0 0, w, ?_, Oi.nil _ _, ⟨rfl, rfl, rfl, Nat.le_refl _, fun _ _ _ => rfl⟩⟩
      have hl := hs'.len
      have hc := hs'.cells
      simp only [List.length_nil] at hl hc
      rcases hs'.kind with ⟨e', hk⟩ | hk <;> simp [Builtin.append_, run_underlying ht, run_underlying hk, sizeOf, typeInfo, hi, hl, hc]
    · have hr := run_append_grow_src (P := Try.prog) w 33 tx ty 3 i (.int .i64 0) ht hi hz none 0 0 [] (by simp [Builtin.firstCells]) x news.length (ic news) hs' (by omega) (by simpa using h63) (by
        have := cap_le (need := 0 + news.length) (old := 0) (by omega)
        simp only [List.length_nil] at hbig
        rw [hby]
        omega)
      have hgr := grown 0 (by simp only [List.length_nil]; omega) (Value.ownBlock (.slice none 0 0))
      simp only [List.length_nil, Nat.zero_add, ic, List.map_nil, List.nil_append] at hgr hr ⊢
      exact ⟨_, _, hr, hgr.1, hgr.2⟩
  · by_cases hroom : xs.length + news.length ≤ cap
    · have hcs' : cur.size = cap := by rw [hcs, Nat.mul_one]
      have hf := hs.cells
      have hst := run_storeCells_at Try.prog g (xs.length * i.size) 3 (ic news) 0 cur w hg (by simp [ic_len, hsz, hcs']; omega) (ic_one _)
      have hr : (Builtin.append_ #[33, tx] ty #[.slice (some ⟨g, 0, none⟩) xs.length cap, x]).run Try.prog w =
          .ok (.slice (some ⟨g, 0, none⟩) (xs.length + news.length) cap) (w.setRow g (cur.toList.take xs.length ++ ic news ++ cur.toList.drop (xs.length + news.length)).toArray) := by
        simp only [Nat.add_zero, hsz, Nat.mul_one, ic_len] at hst
        rcases hs'.kind with ⟨e', hk⟩ | hk <;> simp [Builtin.append_, run_underlying ht, run_underlying hk, sizeOf, typeInfo, hi, hs'.len, hroom, hf, hsz, addr_add, hst]
      refine ⟨_, _, hr, ?_, ⟨rfl, rfl, rfl, by simp, fun k _ hk => setRow_other w g k _ (fun e => hk (by simp [Value.ownBlock, e]))⟩⟩
      unfold Oi
      rw [List.length_append, ic_app]
      refine ⟨by rw [hlen, Nat.mul_one], .inr ⟨g, cap, _, rfl, hbg, setRow_heap w g cur _ 3 _ hg, hroom, hcm, ?_, ?_⟩⟩
      · simp only [List.size_toArray, List.length_append, List.length_take, List.length_drop, Array.length_toList, ic_len]
        omega
      · rw [Nat.mul_one] at htake
        rw [htake, Nat.mul_one, ← hlen]
        exact List.take_left
    · have holds : ∀ j u, (ic xs)[j]? = some u → w.cell? ((⟨g, 0, none⟩ : Addr).add j) = some u := World.ownsRow.cells hown (g := g) rfl
      have hold := run_firstCells_some (P := Try.prog) w.drew i.size xs.length ⟨g, 0, none⟩ xs.length cap (ic xs) (by rw [ic_len, hsz, Nat.mul_one]) (by simpa using holds)
      have hr := run_append_grow_src (P := Try.prog) w 33 tx ty 3 i (.int .i64 0) ht hi hz (some ⟨g, 0, none⟩) xs.length cap (ic xs) hold x news.length (ic news) hs' (by omega) h63 (by
        have := cap_le (need := xs.length + news.length) (old := cap) (by omega)
        rw [hby]
        omega)
      have hgr := grown cap (by omega) (Value.ownBlock (.slice (some ⟨g, 0, none⟩) xs.length cap))
      exact ⟨_, _, hr, hgr.1, hgr.2⟩

theorem wpList_iapps {w : World} {ops : Array Oper} {rest : List Oper} {o : Oper} {a : Act} {Q : Exit → Act → World → Prop} (hgd : o.guard = none) (s x : Operand) (tx : TypeId)
    (ho : o.op = .call { callee := .builtin .append, args := #[s, x], argTypes := #[33, tx] })
    (base : Nat) (v : Value) (xs : List Int) (hs : a.eval s = v) (hown : Oi w base v xs) (xv : Value) (news : List Int) (hx : a.eval x = xv)
    (hsrc : Src Try.prog 1 tx xv news.length (ic news) w) (hbig : xs.length + news.length ≤ 1000000) (hbase : base ≤ w.heap.size)
    (h : ∀ v' w', Oi w' base v' (xs ++ news) → Below base w w' → wpList Try.prog ops Q rest (a.put o.dst v') w') : wpList Try.prog ops Q (o :: rest) a w := by
  obtain ⟨v', w', hr, h2, h3⟩ := run_iapps base tx o.type v xs hown xv news hsrc hbig hbase
  have hb : Below base w w' := (Below.refl base w).grown h3 hbase fun k hk => hown.block hk
  refine wpList_plain hgd fun _ hK => ?_
  unfold Oper.wp execOp
  simp only [ho, resolve, invoke, builtin, Sem.run_bind, Sem.run_pure, Result.andThen_ok, List.map_toArray, List.map_cons, List.map_nil, hs, hx, hr]
  exact hK _ _ (h v' w' h2 hb)


theorem src_li {w : World} {A : Option Addr} {k cap : Nat} {l : List Int} (h : Li w A k cap l) : Src Try.prog 1 33 (.slice A k cap) l.length (ic l) w := by
  rcases Nat.eq_zero_or_pos k with h0 | hp
  · have hb : l = [] := List.eq_nil_of_length_eq_zero (by rw [h.len]; exact h0)
    subst hb
    subst h0
    cases A with
    | none => exact Src.ofNil w Try.underlying33 cap
    | some a => exact Src.ofSlice w Try.underlying33 a 0 cap [] rfl (fun j u hu => by simp at hu) (fun u hu => by cases hu)
  · obtain ⟨b, o, x, rfl, _⟩ := h.intAt 0 hp
    rw [h.len]
    refine Src.ofSlice w Try.underlying33 ⟨b, o, none⟩ k cap (ic l) (by rw [ic_len, h.len, Nat.mul_one]) (fun j u hu => ?_) (ic_one _)
    simp only [ic, List.getElem?_map, Option.map_eq_some_iff] at hu
    obtain ⟨y, hy, rfl⟩ := hu
    obtain ⟨b', o', e, _, hc⟩ := h.cells j y hy
    injection e with e
    injection e with e1 e2
    subst e1 e2
    rw [addr_add]
    exact hc
theorem src_new {w : World} {g : Nat} (hg : w.heap.size = g) (l : List Int) (n : Nat) (hn : l.length = n) (cs : Array Value) (hcs : cs = (ic l).toArray) : Src Try.prog 1 33 (.slice (some ⟨g, 0, none⟩) n n) l.length (ic l) (w.alloc (.cells cs 3)) := by
  subst hcs hg hn
  refine Src.ofSlice _ Try.underlying33 ⟨w.heap.size, 0, none⟩ _ _ (ic l) (by rw [ic_len, Nat.mul_one]) (fun j u hu => ?_) (ic_one _)
  rw [addr_add, (Blk.new w 3 (ic l).toArray).cell]
  simpa using hu
end Go.Proofs.Ytnkjlocjfljjlaa
