/- What the laws ask of order and depth. No condition on the program. -/
import Derived.Test.YtiacclmapicmdaaDoorTrKeep
namespace Go.Proofs.YtiacclmapicmdaaDoor

theorem root_fst : ∀ {t : T}, t.isE = false → ∃ L, t.ns = fst t :: L := fun {t} h => by
  obtain ⟨c, k, r, h1, h2, _⟩ := low_at (t := t) [] h
  have h3 := plug_split (low t []).1 (low t []).2
  rw [low_plug, h1, h2] at h3
  have e : fst t = k := by unfold fst; rw [h1]; rfl
  rw [e]
  exact ⟨_, by simpa [plug, pre, T.ns] using h3⟩
/-- Keys don't fall; ones of the same key stand as their numbers. -/
def Stb (key : Nat → Nat) (L : List Nat) : Prop := L.Pairwise (fun i j => key i < key j ∨ (key i = key j ∧ i < j))
theorem Stb.asc {key : Nat → Nat} {L : List Nat} (h : Stb key L) : Asc key L := List.Pairwise.imp (fun h => by omega) h
theorem addT_stb {key : Nat → Nat} {k : Nat} {t : T} (h : Stb key t.ns) (hk : ∀ j, j ∈ t.ns → j < k) : Stb key (addT key k t).ns := by
  obtain ⟨A, B, h1, h2, h3, h4⟩ := addT_keys (k := k) h.asc
  rw [h1] at h hk
  rw [h2]
  unfold Stb at *
  obtain ⟨ha, hb, hab⟩ := List.pairwise_append.1 h
  refine List.pairwise_append.2 ⟨ha, List.pairwise_cons.2 ⟨fun j hj => .inl (h4 j hj), hb⟩, fun i hi j hj => ?_⟩
  rcases List.mem_cons.1 hj with e | hj
  · subst e
    have a := h3 i hi
    have b := hk i (by simp [hi])
    omega
  · exact hab i hi j hj
theorem addT_mem {key : Nat → Nat} {k j : Nat} {t : T} : j ∈ (addT key k t).ns ↔ j = k ∨ j ∈ t.ns := by
  obtain ⟨h1, h2⟩ := addT_ns key k t
  rw [h1]
  constructor
  · intro h
    rw [h2]
    simp only [List.mem_append, List.mem_cons] at h ⊢
    rcases h with h | h | h
    · exact .inr (.inl h)
    · exact .inl h
    · exact .inr (.inr h)
  · intro h
    rw [h2] at h
    simp only [List.mem_append, List.mem_cons] at h ⊢
    rcases h with h | h | h
    · exact .inr (.inl h)
    · exact .inl h
    · exact .inr (.inr h)
theorem addT_nodup {key : Nat → Nat} {k : Nat} {t : T} (h : t.ns.Nodup) (hk : k ∉ t.ns) : (addT key k t).ns.Nodup := by
  obtain ⟨h1, h2⟩ := addT_ns key k t
  rw [h1]
  rw [h2] at h hk
  simp only [List.mem_append, not_or] at hk
  obtain ⟨a, b, c⟩ := List.nodup_append.1 h
  refine List.nodup_append.2 ⟨a, List.nodup_cons.2 ⟨hk.2, b⟩, fun i hi j hj e => ?_⟩
  subst e
  rcases List.mem_cons.1 hj with e | hj
  · exact hk.1 (e ▸ hi)
  · exact c i hi i hj rfl
theorem addT_len {key : Nat → Nat} {k : Nat} {t : T} : (addT key k t).ns.length = t.ns.length + 1 := by
  obtain ⟨h1, h2⟩ := addT_ns key k t
  rw [h1, h2]
  simp only [List.length_append, List.length_cons]
  omega
/-- A removal takes one leaf out of the order, and leaves the others as they stand. -/
theorem delAt_cut (u : List Fr) (c : Bool) (l r : T) (k : Nat) : (plug u (.n c l k r)).ns = (pre u ++ l.ns) ++ k :: (r.ns ++ post u) ∧ (delAt u (.n c l k r)).ns = (pre u ++ l.ns) ++ (r.ns ++ post u) := by
  constructor
  · rw [plug_split]; simp [T.ns]
  · rw [delAt_ns]; simp
theorem delAt_erase {u : List Fr} {c : Bool} {l r : T} {k : Nat} (h : (plug u (.n c l k r)).ns.Nodup) : (delAt u (.n c l k r)).ns = (plug u (.n c l k r)).ns.erase k := by
  obtain ⟨h1, h2⟩ := delAt_cut u c l r k
  rw [h1] at h ⊢
  rw [h2]
  obtain ⟨_, _, hd⟩ := List.nodup_append.1 h
  have hk : k ∉ pre u ++ l.ns := fun hm => hd k hm k (by simp) rfl
  rw [List.erase_append_right _ hk]
  simp
/-- A red-black tree of at most 2^b - 2 leaves is less than 2b deep. -/
theorem deep_rb {t : T} (h : Rb t) {b : Nat} (hb : t.ns.length + 1 < 2 ^ (b + 1)) : deep t ≤ 2 * b := by
  obtain ⟨⟨n, hn⟩, hr⟩ := h
  obtain ⟨h1, h2⟩ := deep_bal hn
  rw [hr] at h1
  have : n < b + 1 := (Nat.pow_lt_pow_iff_right (by omega)).1 (Nat.lt_of_le_of_lt h2 hb)
  simp only [Bool.false_eq_true, if_false] at h1
  omega
end Go.Proofs.YtiacclmapicmdaaDoor
