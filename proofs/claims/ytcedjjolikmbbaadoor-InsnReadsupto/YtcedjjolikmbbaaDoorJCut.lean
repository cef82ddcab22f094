/- The contract of the document's cut. Condition: the text has at most 1048575 bytes. -/
import Derived.Test.YtcedjjolikmbbaaDoorJReadM
import Derived.Test.YtcedjjolikmbbaaDoorJSmall
import Derived.Test.YtcedjjolikmbbaaDoorISplit
import Derived.Deep.AppendLies
namespace Go.Proofs.YtcedjjolikmbbaaDoor
open Go.RowKit
set_option maxRecDepth 100000
set_option maxHeartbeats 2000000
/-- A piece ahead of the parts of what follows. -/
def spG (cur rest : List UInt8) : List (List UInt8) := match sp rest with
  | [] => [cur]
  | h :: t => (cur ++ h) :: t
theorem spG_nil (cur : List UInt8) : spG cur [] = [cur] := by simp [spG, sp]
theorem spG_empty (rest : List UInt8) : spG [] rest = sp rest := by
  unfold spG
  obtain ⟨x, t, e⟩ := sp_cons rest
  rw [e]
  rfl
theorem spG_blank (cur rest : List UInt8) : spG cur (32 :: rest) = cur :: spG [] rest := by
  rw [spG_empty]
  unfold spG
  rw [sp, if_pos rfl]
  simp
theorem spG_more (cur rest : List UInt8) (c : UInt8) (h : c ≠ 32) : spG cur (c :: rest) = spG (cur ++ [c]) rest := by
  unfold spG
  rw [sp, if_neg h]
  obtain ⟨x, t, e⟩ := sp_cons rest
  rw [e]
  simp
theorem piece_st (s : List UInt8) (a b : Nat) (h1 : a ≤ b) (h2 : b ≤ s.length) (w : World) : (Instr.slice 9 (.string (st s)) (some (.int .i64 (a : Int))) (some (.int .i64 (b : Int))) none).run Tryd.prog w = .ok (.string (st ((s.drop a).take (b - a)))) w := by
  have hs : (st s).size = s.length := st_size s
  rw [run_slice_string _ _ _ _ _ _ _ (by kernel_rfl) (by omega) (by omega) (by rw [hs]; omega)]
  congr 2
  apply ByteArray.ext
  apply Array.ext'
  rw [show ((a : Int)).toNat = a by omega, show ((b : Int)).toNat = b by omega]
  simp [st, ByteArray.data_extract]
/-- A row of texts that the call made. -/
def Os (w : World) (B : Nat) (v : Value) (ws : List (List UInt8)) : Prop := w.ownsRow B 9 1 v ws.length (ws.map sv)
theorem infoSt : (Tryd.prog.info? 9).map (fun i => (i.zero, i.size, i.bytes)) = some (some (.string ⟨#[]⟩), 1, 16) := by kernel_rfl
theorem wpList_sapp {w : World} {ops : Array Oper} {rest : List Oper} {o : Oper} {a : Act} {Q : Exit → Act → World → Prop} (hgd : o.guard = none) (s x : Operand)
    (ho : o.op = .call { callee := .builtin .append, args := #[s, x], argTypes := #[60, 60] })
    (base : Nat) (v : Value) (l : List (List UInt8)) (hs : a.eval s = v) (hown : Os w base v l) (f : List UInt8) (g0 : Nat) (hg0 : w.heap.size = g0) (hx : a.eval x = .slice (some ⟨g0, 0, none⟩) 1 1)
    (hbig : l.length ≤ 10000000) (hbase : base ≤ w.heap.size)
    (h : ∀ v' w', Os w' base v' (l ++ [f]) → Below base w w' → wpList Tryd.prog ops Q rest (a.put o.dst v') w') : wpList Tryd.prog ops Q (o :: rest) a (w.alloc (.cells #[.string (st f)] 9)) := by
  obtain ⟨i0, hi, hz0, hz1, hz2⟩ := info_parts infoSt
  subst hg0
  refine wpList_append_lies _ hgd s x 60 ho base 9 i0 _ 1 16 Tryd.underlying60 hi hz0 hz1 hz2 (by kernel_rfl) (by decide) v l.length (l.map sv) hs (World.ownsRow.alloc hown _) ⟨w.heap.size, 0, none⟩ 1 1 [sv f] hx rfl (fun j u hu => ?_) (fun u hu => by simp [sv] at hu; subst hu; rfl) (by decide) (by unfold maxLen; omega) (by omega) (by simp; omega) (w.heap.size + 1) (by simp) ?_
  · rw [addr_add, (Blk.new w 9 _).cell]
    simpa [sv] using hu
  · intro g cap w' h1 h2 h3 h4
    have hor : Os w' base (.slice (some ⟨g, 0, none⟩) (l.length + 1) cap) (l ++ [f]) := by
      unfold Os
      rw [List.map_append, List.length_append]
      simpa using h1
    refine h _ w' hor ?_
    exact (Below.refl base w).grown ((World.grownBy_alloc w _ _).trans h2) hbase fun k hk => (World.ownsRow.lt hown k hk).1
theorem Os.form {w : World} {B : Nat} {v : Value} {ws : List (List UInt8)} (h : Os w B v ws) (hn : ws ≠ []) : ∃ g c, v = .slice (some ⟨g, 0, none⟩) ws.length c ∧ B ≤ g ∧ g < w.heap.size ∧ ∀ k y, ws[k]? = some y → w.cell? ⟨g, k, none⟩ = some (sv y) := by
  rcases h.2 with ⟨_, h2⟩ | ⟨g, cap, cur, h1, hb, hg, hle, hmax, hsz, htk⟩
  · exact absurd (List.eq_nil_of_length_eq_zero h2) hn
  · refine ⟨g, cap, h1, hb, (Array.getElem?_eq_some_iff.1 hg).1, fun k y hy => ?_⟩
    have := World.ownsRow.cells h (g := g) (by rw [h1]; rfl) k (sv y) (by rw [List.getElem?_map, hy]; rfl)
    rw [addr_add, Nat.zero_add] at this
    exact this
section
variable {w : World}
theorem rcut_any (s : List UInt8) (hs : s.length ≤ 1048575) : Calls Tryd.prog 36 #[.string (st s)] w fun e w' => ∃ g c, e = .returned (.slice (some ⟨g, 0, none⟩) (sp s).length c) ∧ g < w'.heap.size ∧ w.heap.size ≤ g ∧ (∀ k y, (sp s)[k]? = some y → w'.cell? ⟨g, k, none⟩ = some (sv y)) ∧ Below w.heap.size w w' := by
  have hsz : (st s).size = s.length := st_size s
  have HIX := Lib.hid (fun (k : Nat) (c : UInt8) (h : s[k]? = some c) W => run_ixs h W)
  have HPC := Lib.hid (fun (a b : Nat) (h1 : a ≤ b) (h2 : b ≤ s.length) W => piece_st s a b h1 h2 W)
  have HSP := Lib.hid (sp_len s).2
  have HNE := Lib.hid (sp_ne s)
  obtain ⟨L, hL⟩ : ∃ L, s.length = L := ⟨_, rfl⟩
  obtain ⟨S, hS⟩ : ∃ S, st s = S := ⟨_, rfl⟩
  simp only [hS] at HIX HPC
  rw [hS, hL] at hsz
  rw [hS]
  rw [hL] at hs
  have HL := Lib.hid hL
  clear hL hS
  go_enter Tryd.func36, Tryd.ntmps36
  go_wp2_with fail
  go_loopw [3, 4, 5] (fun v f q wr => ∃ (a i : Nat) (l : List (List UInt8)), q = .int .i64 (i : Int) ∧ f = .int .i64 (a : Int) ∧ i ≤ L + 1 ∧ Hid (Os wr w.heap.size v l) ∧ Hid (l.length ≤ i) ∧ Hid (Below w.heap.size w wr) ∧ (i ≤ L → a ≤ i) ∧ Hid (i ≤ L → sp s = l ++ spG ((s.drop a).take (i - a)) (s.drop i)) ∧ Hid (i = L + 1 → l = sp s)) (fun _ _ q _ => L + 1 - (intOf q).toNat)
  case atStart => exact ⟨0, 0, [], rfl, rfl, by omega, Lib.hid (World.ownsRow_nil _ _ _ _), Lib.hid (by simp), Below.refl _ _, fun _ => Nat.le_refl _, Lib.hid (fun _ => by simp [spG_empty]), Lib.hid (fun h => by omega)⟩
  case round =>
    obtain ⟨a, i, l, rfl, rfl, hi, HO, HLl, HW, hai, HI, HE⟩ := hrel
    have hws := HW.out.size
    by_cases hiL : i ≤ L
    · have hai' := hai hiL
      clear hai
      have hiL' : (i : Int) ≤ (L : Int) := by omega
      have wi : IntKind.i64.wrap ((i : Int) + 1) = ((i + 1 : Nat) : Int) := by rw [show (i : Int) + 1 = ((i + 1 : Nat) : Int) by omega]; exact w64 _ (by omega)
      have HIe := Lib.hid (HI.out hiL)
      have hpc := HPC.out a i hai' (by rw [HL.out]; exact hiL)
      by_cases hend : i = L
      · subst hend
        have HEnd := Lib.hid (show l ++ [(s.drop a).take (i - a)] = sp s by
          rw [HIe.out, List.drop_of_length_le (l := s) (i := i) (by rw [HL.out]; exact Nat.le_refl _), spG_nil])
        generalize (s.drop a).take (i - a) = cur at hpc HEnd HIe
        clear hi hiL
        go_wp2_with (first | (at_builtin; refine wpList_sapp rfl _ _ rfl w.heap.size _ l rfl HO.out cur wr.heap.size rfl rfl (by have := HLl.out; omega) hws ?_; intro v5 w5 h5 h6; have O5 := Lib.hid h5; have X5 := Lib.hid (HW.out.trans (h6.mono (Nat.le_refl _))); clear h5 h6))
        go_roundw
        case rel => exact ⟨i + 1, i + 1, l ++ [cur], by go_num, by go_num, by omega, O5, Lib.hid (by rw [List.length_append]; have := HLl.out; simp; omega), X5, fun h => by omega, Lib.hid (fun h => by omega), Lib.hid (fun _ => HEnd.out)⟩
        case measure => simp [intOf]
      · obtain ⟨c, hc⟩ : ∃ c, s[i]? = some c := ⟨_, List.getElem?_eq_getElem (by rw [HL.out]; omega)⟩
        have ix := HIX.out i c hc
        have hlt : i < L := by omega
        have hne : ((i : Int) == (L : Int)) = false := by simp; omega
        have hne2 : ¬ i = L := hend
        have HDc := Lib.hid (show s.drop i = c :: s.drop (i + 1) by
          rw [List.drop_eq_getElem_cons (by rw [HL.out]; exact hlt)]
          have := (List.getElem?_eq_some_iff.1 hc).2
          rw [this])
        by_cases e32 : c = 32
        · subst e32
          have HI2 := Lib.hid (show sp s = (l ++ [(s.drop a).take (i - a)]) ++ spG ((s.drop (i + 1)).take (i + 1 - (i + 1))) (s.drop (i + 1)) by
            rw [Nat.sub_self, List.take_zero, HIe.out, HDc.out, spG_blank]
            simp)
          generalize (s.drop a).take (i - a) = cur at hpc HI2 HIe
          clear hi hiL hend
          go_wp2_with (first | (at_builtin; refine wpList_sapp rfl _ _ rfl w.heap.size _ l rfl HO.out cur wr.heap.size rfl rfl (by have := HLl.out; omega) hws ?_; intro v5 w5 h5 h6; have O5 := Lib.hid h5; have X5 := Lib.hid (HW.out.trans (h6.mono (Nat.le_refl _))); clear h5 h6))
          go_roundw
          case rel => exact ⟨i + 1, i + 1, l ++ [cur], by go_num, by go_num, by omega, O5, Lib.hid (by rw [List.length_append]; have := HLl.out; simp; omega), X5, fun h => Nat.le_refl _, Lib.hid (fun _ => HI2.out), Lib.hid (fun h => by omega)⟩
          case measure => simp [intOf]; omega
        · have n32 : ((c.toNat : Int) == 32) = false := by
            simp only [beq_eq_false_iff_ne, ne_eq]
            exact fun e => e32 (UInt8.toNat_inj.1 (by have h32 : (32 : UInt8).toNat = 32 := rfl; omega))
          have HI2 := Lib.hid (show sp s = l ++ spG ((s.drop a).take (i + 1 - a)) (s.drop (i + 1)) by
            rw [HIe.out, HDc.out, spG_more _ _ _ e32, show i + 1 - a = (i - a) + 1 by omega, List.take_add_one, List.getElem?_drop, show a + (i - a) = i by omega, hc]
            rfl)
          clear hi hiL hend hpc e32 hc
          go_wp2_with fail
          go_roundw
          case rel => exact ⟨a, i + 1, l, by go_num, rfl, by omega, HO, Lib.hid (by have := HLl.out; omega), HW, fun h => by omega, Lib.hid (fun _ => HI2.out), Lib.hid (fun h => by omega)⟩
          case measure => simp [intOf]; omega
    · obtain rfl : i = L + 1 := by omega
      have hiL' : ¬ ((L : Int) + 1) ≤ (L : Int) := by omega
      have hEE := HE.out rfl
      subst hEE
      obtain ⟨g, c, rfl, hg1, hg2, hg3⟩ := HO.out.form HNE.out
      have HF := Lib.hid (And.intro hg2 (And.intro hg1 hg3))
      clear hg1 hg2 hg3 hai hi
      go_wp2_with fail
      go_ret
      exact ⟨g, ⟨c, rfl⟩, HF.out.1, HF.out.2.1, HF.out.2.2, HW.out⟩
end
end Go.Proofs.YtcedjjolikmbbaaDoor
