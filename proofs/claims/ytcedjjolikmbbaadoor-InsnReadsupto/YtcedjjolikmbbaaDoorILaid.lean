/- What the row's condition gives the walks: the tables lie in their blocks. Conditions: the listed variables read as listed; the world has the program's shape. -/
import Derived.Test.YtcedjjolikmbbaaDoorRows
import Derived.Test.YtcedjjolikmbbaaDoorISplit
import Derived.Lib.LaidU8
import Derived.Lay
import Derived.Deep.Strs
import Derived.Deep.DeepHandedRow
import Derived.MakeChecks
namespace Go.Proofs.YtcedjjolikmbbaaDoor
open Go.ChangeShapes Go.WideShapes Go.ChangeAt Go.RowKit Go.Lib
set_option maxRecDepth 100000
set_option maxHeartbeats 4000000

abbrev laidI : List (String × DataW Unit) := Rows.insnChecksRow.laid
theorem own : ownKnob Tryd.prog.godebug = none := by kernel_rfl
/-- A table of texts, as data. -/
def strData (L : List (List UInt8)) : DataW Unit := .agg (L.map fun s => .lit (.string s))
def rowsData : DataW Unit := .agg (rowsN.map fun r => .agg (r.map fun o => .agg ([(o.1 : Int), (o.2 : Int)].map fun z => .lit (.int .u8 z))))
def formsData : DataW Unit := .agg ((List.range 10).map fun f => .agg [.lit (.int .u32 (lowN f : Int)), .lit (.int .u32 (highN f : Int)), .lit (.string (signN f))])
theorem dRows : Rows.laid_turnbuckle_insn_rows = rowsData := by kernel_rfl
theorem dForms : Rows.laid_turnbuckle_insn_forms = formsData := by kernel_rfl
theorem dOps : Rows.laid_turnbuckle_insn_operations = strData opsT := by kernel_rfl
theorem dAlu : Rows.laid_turnbuckle_insn_arithmetics = strData aluT := by kernel_rfl
theorem dCond : Rows.laid_turnbuckle_insn_conditions = strData condT := by kernel_rfl
theorem dHelp : Rows.laid_turnbuckle_insn_helpers = strData helpT := by kernel_rfl
theorem dPow : (Rows.laid_internal_strconv_uint64pow10 : DataW Unit) = tabData .u64 pow10Tab := by kernel_rfl
theorem strs_at {w : World} {n : String} {g : Nat} {t : TypeId} {k : Nat} {L : List (List UInt8)} (hg0 : Tryd.prog.globalNamed n = some g) (ht0 : (Tryd.prog.globals[g]?).map (·.type) = some t) (hu : Tryd.prog.underlying t = some (.array k 9)) (h : VarReads Tryd.prog w n (strData L)) (c : Nat) (hc : c < k) : w.cell? ⟨g, c, none⟩ = some (sv (L.getD c [])) := by
  obtain ⟨g', t', cs, fuel, p, hg, hty, hvar, hd⟩ := h
  obtain rfl := Option.some.inj (hg0.symm.trans hg)
  obtain rfl := Option.some.inj (ht0.symm.trans hty)
  obtain ⟨fuel', d, q, hdi, he⟩ := array_elem hu hd c hc
  have c1 : Tryd.prog.cellsOf 9 = 1 := by kernel_rfl
  rw [c1, Nat.mul_one] at he
  obtain ⟨s, e1, e2, _⟩ := DataW.trod_string Tryd.underlying9 he
  rw [World.var?_cell hg hvar c, ← Array.getElem?_toList]
  have h1 : cs.toList[c]? = some (.string s) := by
    have := congrArg (·[0]?) e1
    simpa [List.getElem?_take, List.getElem?_drop] using this
  rw [h1]
  simp only [Prod.mk.injEq] at e2
  rw [e2.1, List.getElem?_map, Option.map_eq_some_iff] at hdi
  obtain ⟨x, hx, hxs⟩ := hdi
  simp only [DataW.lit.injEq, Lit.string.injEq] at hxs
  subst hxs
  rw [List.getD_eq_getElem?_getD, hx]
  simp [sv, st]
theorem c2 : Tryd.prog.cellsOf 52 = 2 := by kernel_rfl
theorem c8 : Tryd.prog.cellsOf 53 = 8 := by kernel_rfl
theorem cu8 : Tryd.prog.cellsOf 5 = 1 := by kernel_rfl
theorem cu32 : Tryd.prog.cellsOf 22 = 1 := by kernel_rfl
theorem cstr : Tryd.prog.cellsOf 9 = 1 := by kernel_rfl
theorem cform : Tryd.prog.cellsOf 81 = 3 := by kernel_rfl
theorem rows_at {w : World} (h : VarReads Tryd.prog w "turnbuckle/insn.rows" rowsData) (op k p f : Nat) (hk : (rowN op)[k]? = some (p, f)) : w.cell? ⟨0, op * 8 + k * 2, none⟩ = some (.int .u8 (p : Int)) ∧ w.cell? ⟨0, op * 8 + k * 2 + 1, none⟩ = some (.int .u8 (f : Int)) := by
  obtain ⟨g', t', cs, fuel, pl, hg, hty, hvar, hd⟩ := h
  obtain rfl := Option.some.inj ((show Tryd.prog.globalNamed "turnbuckle/insn.rows" = some 0 by kernel_rfl).symm.trans hg)
  obtain rfl := Option.some.inj ((show (Tryd.prog.globals[0]?).map (·.type) = some 54 by kernel_rfl).symm.trans hty)
  have hop : op < 16 := by
    rcases Nat.lt_or_ge op 16 with h | h
    · exact h
    · have : rowN op = [] := by
        unfold rowN
        rw [List.getD_eq_getElem?_getD, List.getElem?_eq_none (by simp [rowsN]; omega)]
        rfl
      rw [this] at hk
      simp at hk
  obtain ⟨fuel', d, q, hdi, he⟩ := array_elem Tryd.underlying54 hd op hop
  rw [c8] at he
  have hr : rowsN[op]? = some (rowN op) := by
    unfold rowN
    rw [List.getD_eq_getElem?_getD, List.getElem?_eq_getElem (by simp [rowsN]; omega)]
    rfl
  rw [List.getElem?_map, hr, Option.map_some, Option.some.injEq] at hdi
  subst hdi
  have hk4 : k < 4 := by
    obtain ⟨p0, f0, p1, f1, p2, f2, p3, f3, e, _⟩ := row_fin ⟨op, hop⟩
    simp only at e
    rw [e] at hk
    rcases Nat.lt_or_ge k 4 with h | h
    · exact h
    · rw [List.getElem?_eq_none (by simpa using h)] at hk
      cases hk
  obtain ⟨fuel2, d2, q2, hd2, he2⟩ := array_elem Tryd.underlying53 he k hk4
  rw [List.getElem?_map, hk, Option.map_some, Option.some.injEq] at hd2
  subst hd2
  rw [c2] at he2
  have hcs := ints_of_struct Tryd.underlying52 (fun j fl hj => by
    match j, hj with
    | 0, hj => simp at hj; subst hj; exact ⟨Tryd.underlying5, rfl, cu8⟩
    | 1, hj => simp at hj; subst hj; exact ⟨Tryd.underlying5, rfl, cu8⟩
    | j + 2, hj => simp at hj) (by rw [c2]; rfl) he2
  have e0 := congrArg (·[0]?) hcs
  have e1 := congrArg (·[1]?) hcs
  simp [List.getElem?_take, List.getElem?_drop] at e0 e1
  constructor
  · rw [World.var?_cell hg hvar (op * 8 + k * 2), ← Array.getElem?_toList]
    have := e0.2
    simpa using this
  · rw [World.var?_cell hg hvar (op * 8 + k * 2 + 1), ← Array.getElem?_toList]
    have := e1.2
    simpa [Nat.add_assoc] using this
theorem forms_at {w : World} (h : VarReads Tryd.prog w "turnbuckle/insn.forms" formsData) (f : Nat) (hf : f < 10) : w.cell? ⟨5, f * 3, none⟩ = some (.int .u32 (lowN f : Int)) ∧ w.cell? ⟨5, f * 3 + 1, none⟩ = some (.int .u32 (highN f : Int)) ∧ w.cell? ⟨5, f * 3 + 2, none⟩ = some (sv (signN f)) := by
  obtain ⟨g', t', cs, fuel, pl, hg, hty, hvar, hd⟩ := h
  obtain rfl := Option.some.inj ((show Tryd.prog.globalNamed "turnbuckle/insn.forms" = some 5 by kernel_rfl).symm.trans hg)
  obtain rfl := Option.some.inj ((show (Tryd.prog.globals[5]?).map (·.type) = some 82 by kernel_rfl).symm.trans hty)
  obtain ⟨fuel', d, q, hdi, he⟩ := array_elem Tryd.underlying82 hd f hf
  rw [cform] at he
  rw [List.getElem?_map, List.getElem?_range hf, Option.map_some, Option.some.injEq] at hdi
  subst hdi
  obtain ⟨y0, y1, y2, n, ex, _, t0, t1, t2⟩ := Go.Deep.trod_struct3 Tryd.underlying81 he
  simp only [Prod.mk.injEq, DataW.agg.injEq, List.cons.injEq, and_true] at ex
  obtain ⟨⟨x0, x1, x2⟩, _⟩ := ex
  rw [cu32] at t0 t1
  rw [cstr] at t2
  obtain ⟨z0, a0, b0, _⟩ := DataW.trod_int Tryd.underlying22 t0
  obtain ⟨z1, a1, b1, _⟩ := DataW.trod_int Tryd.underlying22 t1
  obtain ⟨s2, a2, b2, _⟩ := DataW.trod_string Tryd.underlying9 t2
  rw [b0] at x0
  rw [b1] at x1
  rw [b2] at x2
  simp only [DataW.lit.injEq, Lit.int.injEq, Lit.string.injEq, true_and] at x0 x1 x2
  have e0 := congrArg (·[0]?) a0
  have e1 := congrArg (·[0]?) a1
  have e2 := congrArg (·[0]?) a2
  simp [List.getElem?_drop] at e0 e1 e2
  refine ⟨?_, ?_, ?_⟩
  · rw [World.var?_cell hg hvar (f * 3), ← Array.getElem?_toList, x0]
    simpa using e0
  · rw [World.var?_cell hg hvar (f * 3 + 1), ← Array.getElem?_toList, x1]
    simpa using e1
  · rw [World.var?_cell hg hvar (f * 3 + 2), ← Array.getElem?_toList, x2]
    have : sv s2.data.toList = .string s2 := by simp [sv, st]
    rw [this]
    simpa using e2
theorem var_lt {w : World} {n : String} {d : DataW Unit} {g : Nat} (hg : Tryd.prog.globalNamed n = some g) (h : VarReads Tryd.prog w n d) : g < w.heap.size := by
  obtain ⟨g', t, cs, fuel, p, hg', _, hvar, _⟩ := h
  obtain rfl := Option.some.inj (hg.symm.trans hg')
  unfold World.var? at hvar
  rw [hg] at hvar
  simp only [Option.bind_some] at hvar
  rcases Nat.lt_or_ge g w.heap.size with h | h
  · exact h
  · rw [Array.getElem?_eq_none h] at hvar
    cases hvar
theorem err_at {w : World} {n nm : String} {d : DataW Unit} {g : Nat} (hg0 : Tryd.prog.globalNamed n = some g) (ht0 : (Tryd.prog.globals[g]?).map (·.type) = some 91) (h : VarReads Tryd.prog w n (.iface nm d)) : ∃ tp p, w.var? Tryd.prog n = some #[.iface tp p] := by
  obtain ⟨g', t', cs, fuel, p, hg, hty, hvar, hd⟩ := h
  obtain rfl := Option.some.inj (hg0.symm.trans hg)
  obtain rfl := Option.some.inj (ht0.symm.trans hty)
  obtain ⟨_, u, v, e, _⟩ := iface_of_trod Tryd.underlying91 hd
  refine ⟨u, v, ?_⟩
  rw [hvar]
  congr 1
  apply Array.toList_inj.1
  exact e
theorem tabs_of {W : World} (h : laidMetH Tryd.prog laidI W) (hs : W.ShapedOpen Tryd.prog) : Tabs W := by
  rw [MakeChecks.laidMetH_plain _ _ _ (by kernel_rfl)] at h
  have rd : ∀ {n : String} {d : DataW Unit}, (n, d) ∈ laidI → VarReads Tryd.prog W n d := fun hm => laidMet.reads h hm
  have r1 := rd (n := "turnbuckle/insn.rows") (d := Rows.laid_turnbuckle_insn_rows) (by simp [laidI, Rows.insnChecksRow])
  have r2 := rd (n := "turnbuckle/insn.forms") (d := Rows.laid_turnbuckle_insn_forms) (by simp [laidI, Rows.insnChecksRow])
  have r3 := rd (n := "turnbuckle/insn.operations") (d := Rows.laid_turnbuckle_insn_operations) (by simp [laidI, Rows.insnChecksRow])
  have r4 := rd (n := "turnbuckle/insn.arithmetics") (d := Rows.laid_turnbuckle_insn_arithmetics) (by simp [laidI, Rows.insnChecksRow])
  have r5 := rd (n := "turnbuckle/insn.conditions") (d := Rows.laid_turnbuckle_insn_conditions) (by simp [laidI, Rows.insnChecksRow])
  have r6 := rd (n := "turnbuckle/insn.helpers") (d := Rows.laid_turnbuckle_insn_helpers) (by simp [laidI, Rows.insnChecksRow])
  have r7 := rd (n := "internal/strconv.uint64pow10") (d := Rows.laid_internal_strconv_uint64pow10) (by simp [laidI, Rows.insnChecksRow])
  have r8 := rd (n := "strconv.ErrSyntax") (d := Rows.laid_strconv_ErrSyntax) (by simp [laidI, Rows.insnChecksRow])
  have r9 := rd (n := "strconv.ErrRange") (d := Rows.laid_strconv_ErrRange) (by simp [laidI, Rows.insnChecksRow])
  have r10 := rd (n := "math/bits.deBruijn64tab") (d := Rows.laid_math_bits_deBruijn64tab) (by simp [laidI, Rows.insnChecksRow])
  rw [dRows] at r1
  rw [dForms] at r2
  rw [dOps] at r3
  rw [dAlu] at r4
  rw [dCond] at r5
  rw [dHelp] at r6
  rw [dPow] at r7
  refine ⟨rows_at r1, forms_at r2, ?_, ?_, ?_, ?_, ?_, ?_, ?_, ?_, ?_⟩
  · exact strs_at (by kernel_rfl) (by kernel_rfl) Tryd.underlying76 r4
  · exact strs_at (by kernel_rfl) (by kernel_rfl) Tryd.underlying77 r5
  · exact strs_at (by kernel_rfl) (by kernel_rfl) Tryd.underlying78 r3
  · exact strs_at (by kernel_rfl) (by kernel_rfl) Tryd.underlying80 r6
  · exact Tryd.laysM146.s1_3 W hs
  · obtain ⟨g', t', cs, fuel, p, hg, hty, hvar, hd⟩ := r7
    obtain rfl := Option.some.inj (gPow.symm.trans hg)
    obtain rfl := Option.some.inj ((show (Tryd.prog.globals[7]?).map (·.type) = some 114 by kernel_rfl).symm.trans hty)
    unfold TabIs
    rw [hvar, ← cells_of_tab Tryd.underlying114 Tryd.underlying86 (by kernel_rfl) (by kernel_rfl) hd]
  · exact err_at gSyn (by kernel_rfl) r8
  · exact err_at gRng (by kernel_rfl) r9
  · exact var_lt (by kernel_rfl) r10
end Go.Proofs.YtcedjjolikmbbaaDoor
