/- Texts parted at blanks: strings.Split's pieces are those of sp; what first words lead to. Conditions: the tables lie in their blocks; the text has fewer than 4294967281 bytes. -/
import Derived.Test.YtcedjjolikmbbaaDoorIMap
import Derived.Lib.SplitLaws
namespace Go.Proofs.YtcedjjolikmbbaaDoor
open Go.RowKit
set_option maxRecDepth 100000
set_option maxHeartbeats 4000000

theorem sp_cons (s : List UInt8) : ∃ x t, sp s = x :: t := by
  cases s with
  | nil => exact ⟨[], [], rfl⟩
  | cons c r =>
    unfold sp
    split
    · exact ⟨_, _, rfl⟩
    · split
      · exact ⟨_, _, rfl⟩
      · exact ⟨_, _, rfl⟩
theorem sp_len : ∀ (s : List UInt8), (∀ y ∈ sp s, y.length ≤ s.length) ∧ (sp s).length ≤ s.length + 1
  | [] => by simp [sp]
  | c :: r => by
    obtain ⟨h1, h2⟩ := sp_len r
    unfold sp
    split
    · refine ⟨fun y hy => ?_, by simp only [List.length_cons]; omega⟩
      rcases List.mem_cons.1 hy with rfl | hy
      · simp
      · have := h1 y hy
        simp only [List.length_cons]; omega
    · obtain ⟨x, t, e⟩ := sp_cons r
      rw [e] at h1 h2 ⊢
      refine ⟨fun y hy => ?_, by simp only [List.length_cons] at h2 ⊢; omega⟩
      rcases List.mem_cons.1 hy with rfl | hy
      · have := h1 x (List.mem_cons_self ..)
        simp only [List.length_cons]; omega
      · have := h1 y (List.mem_cons_of_mem _ hy)
        simp only [List.length_cons]; omega
theorem index_blank (c : UInt8) (r : List UInt8) : Lib.index (c :: r) [32] = if c = 32 then 0 else if Lib.index r [32] = -1 then -1 else Lib.index r [32] + 1 := by
  rw [Lib.index]
  by_cases h : c = 32
  · subst h; simp
  · have : ([32] : List UInt8).isPrefixOf (c :: r) = false := by simp [List.isPrefixOf]; exact fun e => h e.symm
    rw [this, if_neg h]
    simp
theorem split_sp : ∀ (s : List UInt8), Lib.splitK [32] 0 (Lib.count s [32]) s = sp s
  | [] => by
    have : Lib.index [] [32] = -1 := by decide
    rw [Lib.count_miss this]
    rfl
  | c :: r => by
    have ih := split_sp r
    have hi := index_blank c r
    by_cases h : c = 32
    · rw [if_pos h] at hi
      rw [Lib.count_hit (i := 0) (by simp) hi, Nat.add_comm 1]
      unfold Lib.splitK sp
      rw [hi, if_pos h]
      simp
      exact ih
    · rw [if_neg h] at hi
      unfold sp
      rw [if_neg h]
      by_cases h1 : Lib.index r [32] = -1
      · rw [if_pos h1] at hi
        rw [Lib.count_miss hi]
        rw [Lib.count_miss h1] at ih
        rw [← ih]
        rfl
      · rw [if_neg h1] at hi
        obtain ⟨i, hr⟩ : ∃ i : Nat, Lib.index r [32] = i := by
          have := Lib.index_ge r [32]
          exact ⟨(Lib.index r [32]).toNat, by omega⟩
        rw [hr] at hi
        have hi2 : Lib.index (c :: r) [32] = ((i + 1 : Nat) : Int) := by rw [hi]; omega
        rw [Lib.count_hit (i := i) (by simp) hr, Nat.add_comm 1] at ih
        rw [Lib.count_hit (i := i + 1) (by simp) hi2, Nat.add_comm 1]
        have e1 : Lib.splitK [32] 0 (Lib.count (r.drop (i + ([32] : List UInt8).length)) [32] + 1) r = r.take i :: Lib.splitK [32] 0 (Lib.count (r.drop (i + ([32] : List UInt8).length)) [32]) (r.drop (i + 1)) := by
          rw [Lib.splitK, hr, if_neg (by simp <;> omega)]
          simp
        have e2 : Lib.splitK [32] 0 (Lib.count ((c :: r).drop (i + 1 + ([32] : List UInt8).length)) [32] + 1) (c :: r) = (c :: r.take i) :: Lib.splitK [32] 0 (Lib.count (r.drop (i + ([32] : List UInt8).length)) [32]) (r.drop (i + 1)) := by
          rw [Lib.splitK, hi2, if_neg (by simp <;> omega)]
          simp
        rw [e2, ← ih, e1]
theorem split_st (s : List UInt8) : Lib.splitB ⟨#[32]⟩ 0 (Lib.countB (st s) ⟨#[32]⟩) (st s) = (sp s).map st := by
  have h := Lib.splitB_data ⟨#[32]⟩ 0 (Lib.countB (st s) ⟨#[32]⟩) (st s)
  rw [st_data] at h
  have h2 : Lib.splitK [32] 0 (Lib.count (st s).data.toList [32]) s = sp s := by rw [st_data]; exact split_sp s
  have h3 : (Lib.splitB ⟨#[32]⟩ 0 (Lib.countB (st s) ⟨#[32]⟩) (st s)).map (·.data.toList) = sp s := h.trans h2
  rw [← h3, List.map_map]
  have : (st ∘ fun x : ByteArray => x.data.toList) = id := by
    funext x
    simp [st]
  rw [this, List.map_id]
theorem split_n (s : List UInt8) : Lib.countB (st s) ⟨#[32]⟩ + 1 = (sp s).length := by
  rw [← Lib.splitB_all ⟨#[32]⟩ (by decide) 0 _ (st s) rfl, split_st, List.length_map]
theorem look_in {x : List UInt8} {i : In} (h : look x = some i) : (1 ≤ i.op ∧ i.op ≤ 15) ∧ i.a = 0 ∧ i.b = 0 ∧ i.c ≤ 11 ∧ i.im = 0 := by
  unfold look lk at h
  rw [Option.map_eq_some_iff] at h
  obtain ⟨q, hq, rfl⟩ := h
  have hm := List.mem_of_find?_eq_some hq
  have hd : ∀ q ∈ feP 16, (1 ≤ q.2.op ∧ q.2.op ≤ 15) ∧ q.2.a = 0 ∧ q.2.b = 0 ∧ q.2.c ≤ 11 ∧ q.2.im = 0 := by decide +kernel
  exact hd q hm
/-- The words ws lie in block g, from A on. -/
def Wd (w : World) (g : Nat) (A : Option Addr) (ws : List (List UInt8)) : Prop := ws ≠ [] → ∃ o, A = some ⟨g, o, none⟩ ∧ ∀ k y, ws[k]? = some y → w.cell? ⟨g, o + k, none⟩ = some (sv y)
theorem Wd.below {w w' : World} {g B : Nat} {A : Option Addr} {ws : List (List UInt8)} (h : Wd w g A ws) (hb : Below B w w') (hg : g < B) : Wd w' g A ws := fun hn => by
  obtain ⟨o, e, hc⟩ := h hn
  exact ⟨o, e, fun k y hy => (hb.cell (p := ⟨g, o + k, none⟩) hg).trans (hc k y hy)⟩
section
variable {w : World}
theorem split_any (T : Hid (Tabs w)) (s : List UInt8) (hs : s.length < 4294967281) : Calls Tryd.prog 33 #[sv s, .string ⟨#[32]⟩] w fun e w' => e = .returned (.slice (some ⟨w.heap.size, 0, none⟩) (sp s).length (sp s).length) ∧ Blk w' w.heap.size 9 ((sp s).map sv).toArray ∧ Below w.heap.size w w' := by
  obtain ⟨m, hm⟩ := T.out.max
  refine (Tryd.strings_Split (st s) ⟨#[32]⟩ m w (by rw [st_size]; exact hs) hm (by decide)).mono ?_
  rintro e w' ⟨rfl, rfl⟩
  refine ⟨by rw [split_n], ?_, by go_grown⟩
  rw [split_st, List.map_map]
  exact Blk.new _ _ _
end
end Go.Proofs.YtcedjjolikmbbaaDoor
