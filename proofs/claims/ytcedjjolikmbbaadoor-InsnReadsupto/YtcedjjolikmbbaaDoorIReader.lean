/- The contracts of readDecimal, readerOf and of the functions that it makes. Conditions: the tables lie in their blocks; the word is at most 4294967295 bytes long. -/
import Derived.Test.YtcedjjolikmbbaaDoorIText
import Derived.Lib.SmallJoins
namespace Go.Proofs.YtcedjjolikmbbaaDoor
open Go.RowKit
set_option maxRecDepth 100000
set_option maxHeartbeats 4000000

theorem parseM_le (M : Nat) : ∀ (l : List UInt8) (acc u : Nat), acc ≤ M → Lib.parseUintM M acc l = .ok u → u ≤ M
  | [], acc, u, h, e => by simp [Lib.parseUintM] at e; omega
  | c :: r, acc, u, h, e => by
    unfold Lib.parseUintM at e
    split at e
    · split at e
      · cases e
      · split at e
        · cases e
        · exact parseM_le M r _ u (by omega) e
    · cases e
theorem parse_lt {d : List UInt8} {u : Nat} (h : Lib.parseUintB 32 d = .ok u) : u < 4294967296 := by
  unfold Lib.parseUintB at h
  split at h
  · cases h
  · have := parseM_le _ _ _ _ (Nat.zero_le _) h
    omega
theorem str_ne {x y : ByteArray} (h : x ≠ y) : (x.toList == y.toList) = false := by
  rw [beq_eq_false_iff_ne, ByteArray.toList_eq, ByteArray.toList_eq]
  intro e
  apply h
  obtain ⟨⟨_⟩⟩ := x
  obtain ⟨⟨_⟩⟩ := y
  simp at e
  simp [e]
theorem two_new (w : World) (a1 a2 : Array Value) (t1 t2 : TypeId) : Blk ((w.alloc (.cells a1 t1)).alloc (.cells a2 t2)) (w.heap.size + 1) t2 a2 := by
  have := Blk.new (w.alloc (.cells a1 t1)) t2 a2
  simp only [World.size_alloc] at this
  exact this
theorem below_pu {w w1 : World} {e : TypeId} {s : ByteArray} (h : w1 = w ∨ w1 = Lib.bytesWorld w e s) : Below w.heap.size w w1 := by
  rcases h with rfl | rfl
  · exact Below.refl _ _
  · exact Joins.below_bytesWorld _ _ _ _ (Nat.le_refl _)
section
variable {w : World}
theorem readDecimal_any (T : Hid (Tabs w)) (d : List UInt8) (hd : d.length ≤ 4294967295) : Calls Tryd.prog 46 #[sv d] w fun e w' => e = .returned (.tuple #[.int .u32 (((rdDec d).getD 0 : Nat) : Int), .bool (rdDec d).isSome]) ∧ Below w.heap.size w w' := by
  have hsz : (st d).size ≤ 281474976710656 := by rw [st_size]; omega
  have hsz2 : (st d).size ≤ 9223372036854775806 := by omega
  unfold sv
  rcases hp : Lib.parseUintB 32 d with u | _ | _
  · have hu := parse_lt hp
    have wu := w32 u hu
    have PU := Lib.hid (Tryd.strconv_ParseUint_10_at32_ok (st d) hsz2 u (by rw [st_data]; exact hp) w)
    have DC := Lib.hid fun (W : World) (T : Hid (Tabs W)) => decimal_any T u hu
    by_cases hdd : Lib.decDigits u = d
    · have HR := Lib.hid (show rdDec d = some u by unfold rdDec; rw [hp]; simp only; rw [if_pos hdd])
      have HD := Lib.hid hdd
      clear hp hdd hsz hsz2
      go_enter Tryd.func46, Tryd.ntmps46
      go_wp2_with (first
        | (go_at_call 52; refine PU.out.mono ?_; rintro e w1 ⟨rfl, h1⟩; have X1 := Lib.hid (below_pu h1); have T1 := Lib.hid (T.out.out X1.out); clear h1)
        | (go_at_call 41; refine (DC.out _ T1).mono ?_; rintro e w2 ⟨rfl, h2⟩; rw [HD.out]; have X2 := Lib.hid (X1.out.trans (h2.mono X1.out.size)); clear h2; unfold sv))
      go_ret2
      rw [HR.out]
      exact ⟨rfl, X2.out⟩
    · have HR := Lib.hid (show rdDec d = none by unfold rdDec; rw [hp]; simp only; rw [if_neg hdd])
      have q1 := str_ne (fun e => hdd (st_inj e) : st (Lib.decDigits u) ≠ st d)
      clear hp hdd hsz hsz2
      go_enter Tryd.func46, Tryd.ntmps46
      go_wp2_with (first
        | (go_at_call 52; refine PU.out.mono ?_; rintro e w1 ⟨rfl, h1⟩; have X1 := Lib.hid (below_pu h1); have T1 := Lib.hid (T.out.out X1.out); clear h1)
        | (go_at_call 41; refine (DC.out _ T1).mono ?_; rintro e w2 ⟨rfl, h2⟩; have X2 := Lib.hid (X1.out.trans (h2.mono X1.out.size)); clear h2; unfold sv))
      go_ret2
      rw [HR.out]
      exact ⟨rfl, X2.out⟩
  · have HR := Lib.hid (show rdDec d = none by unfold rdDec; rw [hp])
    obtain ⟨tp, p, hv⟩ := T.out.syn
    have PU := Lib.hid (Tryd.strconv_ParseUint_10_at32_syntax_var (st d) hsz (by rw [st_data]; exact hp) tp p w hv)
    clear hp hv hsz hsz2
    go_enter Tryd.func46, Tryd.ntmps46
    go_wp2_with (go_at_call 52; refine PU.out.mono ?_; rintro e w1 ⟨N, rfl, h1, h2, h3⟩; have X1 := Lib.hid h3; clear h1 h2 h3)
    go_ret2
    rw [HR.out]
    exact ⟨rfl, X1.out⟩
  · have HR := Lib.hid (show rdDec d = none by unfold rdDec; rw [hp])
    obtain ⟨tp, p, hv⟩ := T.out.rng
    have PU := Lib.hid (Tryd.strconv_ParseUint_10_at32_range_var (st d) hsz (by rw [st_data]; exact hp) tp p w hv)
    clear hp hv hsz hsz2
    go_enter Tryd.func46, Tryd.ntmps46
    go_wp2_with (go_at_call 52; refine PU.out.mono ?_; rintro e w1 ⟨N, rfl, h1, h2, h3⟩; have X1 := Lib.hid h3; clear h1 h2 h3)
    go_ret2
    rw [HR.out]
    exact ⟨rfl, X1.out⟩
/-- The value of a read word. -/
abbrev rv (o : Option Nat) : Value := .tuple #[.int .u32 ((o.getD 0 : Nat) : Int), .bool o.isSome]
theorem rdHelp_at (x : List UInt8) : ∀ (n c : Nat), (∀ k, c ≤ k → k < c + n → helpT.getD k [] ≠ x) → rdHelp x c n = none
  | 0, _, _ => rfl
  | n + 1, c, h => by
    unfold rdHelp
    rw [if_neg (h c (Nat.le_refl _) (by omega))]
    exact rdHelp_at x n (c + 1) fun k h1 h2 => h k (by omega) (by omega)
theorem rdHelp_hit (x : List UInt8) : ∀ (n c k : Nat), c ≤ k → k < c + n → helpT.getD k [] = x → (∀ q, c ≤ q → q < k → helpT.getD q [] ≠ x) → rdHelp x c n = some k
  | 0, c, k, h1, h2, _, _ => by omega
  | n + 1, c, k, h1, h2, h3, h4 => by
    unfold rdHelp
    by_cases e : c = k
    · subst e
      rw [if_pos h3]
    · rw [if_neg (h4 c (Nat.le_refl _) (by omega))]
      exact rdHelp_hit x n (c + 1) k (by omega) (by omega) h3 fun q h5 h6 => h4 q (by omega) h6
/-- The function that reads a helper's word. -/
theorem reader1_any (T : Hid (Tabs w)) (g : Nat) (s : Value) (K : Hid (Blk w g 81 #[.int .u32 1, .int .u32 22, s])) (x : List UInt8) :
    Calls Tryd.prog 43 #[sv x, .pointer (some ⟨g, 0, none⟩)] w fun e w' => e = .returned (rv (rdHelp x 1 22)) ∧ w' = w := by
  have c0 := K.out.cell 0
  have c1 := K.out.cell 1
  simp at c0 c1
  unfold sv
  go_enter Tryd.func43, Tryd.ntmps43
  go_wp2_with fail
  go_loopw [5] (fun k wr => ∃ j : Nat, 1 ≤ j ∧ j ≤ 23 ∧ k = .int .u32 j ∧ Hid (∀ q, 1 ≤ q → q < j → helpT.getD q [] ≠ x) ∧ wr = w) (fun k _ => 23 - (intOf k).toNat)
  case atStart => exact ⟨1, by omega, by omega, rfl, fun q h1 h2 => by omega, rfl⟩
  case round =>
    obtain ⟨j, h1, h2, rfl, HQ, rfl⟩ := hrel
    by_cases hj : j ≤ 22
    · have cc := T.out.help j (by omega)
      have hj' : (j : Int) ≤ 22 := by omega
      have hj3 : (j : Int) < 23 := by omega
      have wj : IntKind.u32.wrap ((j : Int) + 1) = ((j + 1 : Nat) : Int) := by rw [show (j : Int) + 1 = ((j + 1 : Nat) : Int) by omega]; exact w32 _ (by omega)
      by_cases hx : helpT.getD j [] = x
      · have HR := Lib.hid (rdHelp_hit x 22 1 j h1 (by omega) hx HQ.out)
        rw [hx] at cc
        unfold sv at cc
        clear hx
        go_wp2_with fail
        go_ret2
        rw [HR.out]
        exact ⟨rfl, rfl⟩
      · have HX := Lib.hid (show ∀ q, 1 ≤ q → q < j + 1 → helpT.getD q [] ≠ x from fun q a1 a2 => by
          rcases Nat.lt_or_ge q j with h | h
          · exact HQ.out q a1 h
          · have : q = j := by omega
            rw [this]; exact hx)
        have q1 := str_ne (fun e => hx (st_inj e) : st (helpT.getD j []) ≠ st x)
        generalize helpT.getD j [] = Y at cc q1 hx
        unfold sv at cc
        clear hx
        go_wp2_with fail
        go_roundw
        case rel => exact ⟨j + 1, by omega, by omega, by first | rfl | go_num, HX.out, trivial⟩
        case measure => simp [intOf]; omega
    · obtain rfl : j = 23 := by omega
      have HR := Lib.hid (rdHelp_at x 22 1 fun k a1 a2 => HQ.out k a1 (by omega))
      go_wp2_with fail
      go_ret2
      rw [HR.out]
      exact ⟨rfl, rfl⟩
theorem rw_num {f : Nat} (hf : f ≠ 9) (x : List UInt8) (hp : Lib.hasPrefix x (signN f) = true) (o : Option Nat) (ho : rdDec (x.drop (signN f).length) = o) : rw f x = o.bind fun v => if inR f v = true then some v else none := by
  unfold rw
  rw [if_neg hf, if_pos hp, ho]
/-- The function that reads a number's word. -/
theorem reader2_any (T : Hid (Tabs w)) (f g g2 : Nat) (hf : f < 10) (h9 : f ≠ 9) (l h : Value) (K : Hid (Blk w g 81 #[l, h, sv (signN f)])) (K2 : Hid (Blk w g2 5 #[.int .u8 (f : Int)])) (x : List UInt8) (hx : x.length ≤ 4294967295) :
    Calls Tryd.prog 44 #[sv x, .pointer (some ⟨g, 0, none⟩), .pointer (some ⟨g2, 0, none⟩)] w fun e w' => e = .returned (rv (rw f x)) ∧ Below w.heap.size w w' := by
  have c0 := K.out.cell 2
  have lg := K.out.lt
  have lg2 := K2.out.lt
  simp at c0
  unfold sv at c0 ⊢
  have CP := Lib.hid (Tryd.strings_CutPrefix (st x) (st (signN f)) w)
  have hdl : (Lib.trimPrefix x (signN f)).length ≤ 4294967295 := by
    unfold Lib.trimPrefix
    split
    · rw [List.length_drop]; omega
    · exact hx
  have RD := Lib.hid (readDecimal_any T (Lib.trimPrefix x (signN f)) hdl)
  have RV := Lib.hid (show Lib.hasPrefix x (signN f) = true → ∀ o, rdDec (Lib.trimPrefix x (signN f)) = o → rw f x = o.bind fun v => if inR f v = true then some v else none from fun hp o ho => rw_num h9 x hp o (by unfold Lib.trimPrefix at ho; rw [if_pos hp] at ho; exact ho))
  have RN := Lib.hid (show Lib.hasPrefix x (signN f) = false → rw f x = none from fun hp => by unfold rw; rw [if_neg h9, if_neg (by rw [hp]; decide)])
  simp only [st_data] at CP
  generalize Lib.trimPrefix x (signN f) = D at CP RD RV hdl
  generalize signN f = S at CP RV RN c0
  have F2 := Lib.hid fun (w1 : World) (hb : Below w.heap.size w w1) => (hb.cell (p := ⟨g2, 0, none⟩) lg2).trans (K2.out.cell 0)
  have IR := Lib.hid fun (v : Nat) (w1 : World) (hb : Below w.heap.size w w1) => inRange_any (Lib.hid (T.out.out hb)) f v hf
  cases hp : Lib.hasPrefix x S
  · have HR := Lib.hid (RN.out hp)
    rw [hp] at CP
    clear hp RN RV F2 IR hdl h9
    go_enter Tryd.func44, Tryd.ntmps44
    go_wp2_with (first
      | (go_at_call 45; refine CP.out.mono ?_; rintro e w1 ⟨rfl, rfl⟩)
      | (go_at_call 46; refine RD.out.mono ?_; rintro e w2 ⟨rfl, h2⟩; have X2 := Lib.hid h2; clear h2))
    go_ret2
    rw [HR.out]
    exact ⟨rfl, X2.out⟩
  · cases hd : rdDec D with
    | none =>
      have HR := Lib.hid (RV.out hp none hd)
      rw [hp] at CP
      rw [hd] at RD
      clear hp RN RV F2 IR hdl h9 hd
      go_enter Tryd.func44, Tryd.ntmps44
      go_wp2_with (first
        | (go_at_call 45; refine CP.out.mono ?_; rintro e w1 ⟨rfl, rfl⟩)
        | (go_at_call 46; refine RD.out.mono ?_; rintro e w2 ⟨rfl, h2⟩; have X2 := Lib.hid h2; clear h2; simp only [Option.getD_none, Option.isSome_none]))
      go_ret2
      rw [HR.out]
      exact ⟨rfl, X2.out⟩
    | some v =>
      have HR := Lib.hid (RV.out hp (some v) hd)
      rw [hp] at CP
      rw [hd] at RD
      cases hi : inR f v
      · have HI := Lib.hid hi
        have HR2 := Lib.hid (show rw f x = none by rw [HR.out]; simp [hi])
        clear hp RN RV hdl h9 hd hi HR
        go_enter Tryd.func44, Tryd.ntmps44
        go_wp2_with (first
          | (go_at_call 45; refine CP.out.mono ?_; rintro e w1 ⟨rfl, rfl⟩)
          | (go_at_call 46; refine RD.out.mono ?_; rintro e w2 ⟨rfl, h2⟩; have X2 := Lib.hid h2; have c2 := F2.out _ h2; simp at c2; clear h2; simp only [Option.getD_some, Option.isSome_some])
          | (go_at_call 30; refine (IR.out v _ X2.out).mono ?_; rintro e w3 ⟨rfl, rfl⟩; rw [HI.out]))
        go_ret2
        rw [HR2.out]
        exact ⟨rfl, X2.out⟩
      · have HI := Lib.hid hi
        have HR2 := Lib.hid (show rw f x = some v by rw [HR.out]; simp [hi])
        clear hp RN RV hdl h9 hd hi HR
        go_enter Tryd.func44, Tryd.ntmps44
        go_wp2_with (first
          | (go_at_call 45; refine CP.out.mono ?_; rintro e w1 ⟨rfl, rfl⟩)
          | (go_at_call 46; refine RD.out.mono ?_; rintro e w2 ⟨rfl, h2⟩; have X2 := Lib.hid h2; have c2 := F2.out _ h2; simp at c2; clear h2; simp only [Option.getD_some, Option.isSome_some])
          | (go_at_call 30; refine (IR.out v _ X2.out).mono ?_; rintro e w3 ⟨rfl, rfl⟩; rw [HI.out]))
        go_ret2
        rw [HR2.out]
        exact ⟨rfl, X2.out⟩
/-- A function value that reads the words of form f, in a world. -/
def Rdr (w : World) (f : Nat) (v : Value) : Prop :=
  (f = 9 ∧ ∃ g s, v = .func (.func 43) #[] #[.pointer (some ⟨g, 0, none⟩)] ∧ Blk w g 81 #[.int .u32 1, .int .u32 22, s]) ∨
  (f ≠ 9 ∧ ∃ g g2 l h, v = .func (.func 44) #[] #[.pointer (some ⟨g, 0, none⟩), .pointer (some ⟨g2, 0, none⟩)] ∧ Blk w g 81 #[l, h, sv (signN f)] ∧ Blk w g2 5 #[.int .u8 (f : Int)])
theorem readerOf_any (T : Hid (Tabs w)) (f : Nat) (hf : f < 10) : Calls Tryd.prog 35 #[.int .u8 (f : Int)] w fun e w' => (∃ v, e = .returned v ∧ Rdr w' f v) ∧ Below w.heap.size w w' := by
  obtain ⟨c0, c1, c2⟩ := T.out.forms f hf
  have b5 : 5 < w.heap.size := by have := T.out.size; omega
  have hf' : (f : Int) < 10 := by omega
  have hmf : ∀ (fn : Fn) (first cap : Array Value) (w : World), (Instr.makeFunc fn first cap).run Tryd.prog w = .ok (.func fn first cap) w := fun _ _ _ _ => rfl
  by_cases h9 : f = 9
  · subst h9
    unfold sv at c2
    go_enter Tryd.func35, Tryd.ntmps35
    go_wp2_with fail
    go_ret
    refine ⟨⟨_, rfl, Or.inl ⟨rfl, _, _, rfl, two_new _ _ _ _ _⟩⟩, ?_⟩
    go_grown
  · have n9 : ((f : Int) == 9) = false := by simp; omega
    unfold sv at c2
    go_enter Tryd.func35, Tryd.ntmps35
    go_wp2_with fail
    go_ret
    refine ⟨⟨_, rfl, Or.inr ⟨h9, _, _, _, _, rfl, two_new _ _ _ _ _, (Blk.new _ _ _).alloc _⟩⟩, ?_⟩
    go_grown
end
end Go.Proofs.YtcedjjolikmbbaaDoor
