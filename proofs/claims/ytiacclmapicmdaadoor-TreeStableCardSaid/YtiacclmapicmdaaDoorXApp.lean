/- append as a step of a drawn region, of rows of places. No condition. -/
import Derived.Test.YtiacclmapicmdaaDoorInts
import Derived.Deep.RegionHeldLaw
namespace Go.Proofs.YtiacclmapicmdaaDoor
open Go.RowKit

theorem tstep_ap {P : Program} (w : World) {ops : Array Oper} {o : Oper} {a : Act} {K : Act → World → Prop} {Q : Exit → Act → World → Prop} {E : Prop} (hgd : o.guard = none) (s x : Operand) (t : TypeId)
    (ho : o.op = .call { callee := .builtin .append, args := #[s, x], argTypes := #[t, t] })
    (base : Nat) (e : TypeId) (i : TypeInfo) (z : Value) (size bytes : Nat) (ht : P.underlying t = some (.slice e)) (hi : P.info? e = some i) (hz : i.zero = some z)
    (hsize : i.size = size) (hby : i.bytes = bytes) (hzs : z.cells.size = size) (hsz : 0 < size)
    (v : Value) (n : Nat) (xs : List Value) (hs : a.eval s = v) (hown : w.ownsRow base e size v n xs)
    (ad : Addr) (m c : Nat) (news : List Value) (hx : a.eval x = .slice (some ad) m c) (hl : news.length = m * size) (hnews : ∀ j u, news[j]? = some u → w.cell? (ad.add j) = some u) (h1 : ∀ u ∈ news, u.oneCell' = true)
    (h63 : n + m ≤ maxLen) (hbytes : (n + m) * bytes ≤ 140737488355328) (hbase : base ≤ w.heap.size)
    (h : ∀ v' w', w'.ownsRow base e size v' (n + m) (xs ++ news) → w.grownBy w' v.ownBlock → K (a.put o.dst v') w') :
    if Region.wanted o (yielded ops a.tmps) = true then Oper.wp P o a w K Q else E := by
  have hw : Region.wanted o (yielded ops a.tmps) = true := by simp [Region.wanted, hgd]
  rw [if_pos hw]
  exact wp_append_own w s x t ho base e i z size bytes ht hi hz hsize hby hzs hsz v n xs hs hown ad m c news hx hl hnews h1 h63 hbytes hbase fun v' w' h2 h3 _ => h v' w' h2 h3
theorem tstep_xapp {w W : World} {ops : Array Oper} {o : Oper} {a : Act} {K : Act → World → Prop} {Q : Exit → Act → World → Prop} {E : Prop} (hgd : o.guard = none) (s x : Operand)
    (ho : o.op = .call { callee := .builtin .append, args := #[s, x], argTypes := #[44, 44] })
    (B : Bx) (n m c : Nat) (v : Value) (xs news : List Nat) (A : Option Addr) (hs : a.eval s = v) (hown : W.ownsRow w.heap.size 3 1 v n (intx xs)) (hx : a.eval x = .slice A m c)
    (hsg : Sx W B A news) (hm : news.length = m) (hz : A = none → c = 0) (hb : n + m ≤ 100000) (hbl : Below w.heap.size w W)
    (h : ∀ v' w', w'.ownsRow w.heap.size 3 1 v' (n + m) (intx (xs ++ news)) → W.grownBy w' v.ownBlock → Below w.heap.size w w' → K (a.put o.dst v') w') :
    if Region.wanted o (yielded ops a.tmps) = true then Oper.wp Tryd.prog o a W K Q else E := by
  obtain ⟨i0, hi, hz0, hz1, hz2⟩ := info_parts intInfo
  cases A with
  | none =>
    have hn : news = [] := by
      cases news with
      | nil => rfl
      | cons y ys =>
        obtain ⟨b, o, e, _⟩ := hsg 0 y rfl
        cases e
    subst hn
    have hm0 : m = 0 := hm.symm
    subst hm0
    rw [hz rfl] at hx
    have hw : Region.wanted o (yielded ops a.tmps) = true := by simp [Region.wanted, hgd]
    rw [if_pos hw]
    have hrun := run_append_owned_none (P := Tryd.prog) (w := W) w.heap.size 44 o.type 3 i0 1 Tryd.underlying44 hi v n (intx xs) hown
    unfold Oper.wp
    simp [execOp, ho, resolve, invoke, builtin, hs, hx, hrun, Result.andThen]
    exact h v W (by rw [List.append_nil]; exact hown) ⟨rfl, rfl, rfl, Nat.le_refl _, fun _ _ _ => rfl⟩ hbl
  | some ad =>
    refine tstep_ap W hgd s x 44 ho w.heap.size 3 i0 (.int .i64 0) 1 8 Tryd.underlying44 hi hz0 hz1 hz2 rfl (by decide) v n (intx xs) hs hown ad m c (intx news) hx (by rw [intx_len, hm, Nat.mul_one]) ?_ (intx_one _) (by unfold maxLen; omega) (by omega) hbl.size ?_
    · intro j u hu
      obtain ⟨y, hy, rfl⟩ := intx_at hu
      obtain ⟨b, o, e, _, _, hc⟩ := hsg j y hy
      cases e
      rw [addr_plus]
      exact hc
    · intro v' w' h1 h2
      rw [← intx_app] at h1
      exact h v' w' h1 h2 (hbl.grown h2 hbl.size (fun k hk => (World.ownsRow.lt hown k hk).1))
end Go.Proofs.YtiacclmapicmdaaDoor
