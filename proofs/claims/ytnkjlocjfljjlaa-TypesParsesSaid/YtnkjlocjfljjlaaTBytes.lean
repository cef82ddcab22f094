/- The bytes of types in the mind; the contracts of typeNumbers and Bytes. Condition: the types can be read. -/
import Derived.Test.YtnkjlocjfljjlaaTCheck
import Derived.Test.YtnkjlocjfljjlaaTApp
import Derived.Test.YtnkjlocjfljjlaaWNum
import Derived.Test.YtnkjlocjfljjlaaWText
namespace Go.Proofs.Ytnkjlocjfljjlaa
open Go.RowKit
set_option maxRecDepth 100000
set_option maxHeartbeats 4000000

def nf (f : Fd) : List Int := [f.kind, f.len, f.ty, f.link, f.key]
def flg (v r : Bool) : Int := (if v = true then 1 else 0) + (if r = true then 2 else 0)
def nums (t : Ty) : List Int := flg t.value t.refs :: t.fields.flatMap nf
def enc (t : Ty) : List Nat := txV (ofS t.name) ++ isV (nums t)
def encs (ts : List Ty) : List Nat := ts.flatMap enc
noncomputable def byV (ts : List Ty) : List Nat := if ckE ts = 0 then num ts.length ++ encs ts else []
theorem encs_snoc {ts : List Ty} {j : Nat} {t : Ty} (h : ts[j]? = some t) : encs (ts.take (j + 1)) = encs (ts.take j) ++ enc t := by
  rw [take_snoc h]
  simp [encs]
theorem nf_len (fs : List Fd) : (fs.flatMap nf).length = 5 * fs.length := by
  induction fs with
  | nil => rfl
  | cons f r ih => simp only [List.flatMap_cons, List.length_append, ih, List.length_cons]; simp [nf]; omega
theorem nf_snoc {fs : List Fd} {j : Nat} {f : Fd} (h : fs[j]? = some f) : (fs.take (j + 1)).flatMap nf = (fs.take j).flatMap nf ++ nf f := by
  rw [take_snoc h]
  simp
theorem nums_len (t : Ty) : (nums t).length = 5 * t.fields.length + 1 := by unfold nums; rw [List.length_cons, nf_len]
theorem nums_fit {w : World} {A : Option Addr} {k c : Nat} {t : Ty} (h : Lf w A k c t.fields) : Fit (nums t) := by
  intro x hx
  rcases List.mem_cons.1 hx with rfl | h1
  · unfold flg
    cases t.value <;> cases t.refs <;> decide
  · obtain ⟨f, hf, hxf⟩ := List.mem_flatMap.1 h1
    obtain ⟨i, hi⟩ := List.mem_iff_getElem?.1 hf
    obtain ⟨_, _, _, _, hok, _⟩ := h.cells i f hi
    simp [nf] at hxf
    rcases hxf with rfl | rfl | rfl | rfl | rfl
    · exact hok.kind
    · exact hok.len
    · exact hok.ty
    · exact hok.link
    · exact hok.key
theorem txV_len (s : ByteArray) : (txV (ofS s)).length ≤ 18 := by
  unfold txV
  split
  · rename_i h
    have h1 := nm_len h
    have h2 := num_two (n := (ofS s).length) (by omega)
    rw [List.length_append]
    omega
  · simp
theorem isV_len {l : List Int} (h : l.length ≤ 61) : (isV l).length ≤ 307 := by
  unfold isV
  split
  · rename_i h0
    have h1 := isE_zero.1 h0
    have h2 := flat_len (nats l) (nats_of h1.2)
    have h3 := num_two (n := l.length) (by omega)
    rw [nats_len] at h2
    rw [List.length_append]
    omega
  · simp
theorem enc_len {t : Ty} (h : t.fields.length ≤ 12) : (enc t).length ≤ 325 := by
  have h1 := txV_len t.name
  have h2 := isV_len (l := nums t) (by rw [nums_len]; omega)
  unfold enc
  rw [List.length_append]
  omega
theorem encs_len : ∀ ts : List Ty, (∀ t ∈ ts, t.fields.length ≤ 12) → (encs ts).length ≤ 325 * ts.length
  | [], _ => by simp [encs]
  | t :: r, h => by
    have h1 := enc_len (h t (by simp))
    have h2 := encs_len r fun u hu => h u (by simp [hu])
    simp only [encs, List.flatMap_cons, List.length_append, List.length_cons] at h2 ⊢
    omega
theorem isV_byt' (l : List Int) : Byt (isV l) := by
  unfold isV
  split
  · exact byt_app (num_byt _) (flat_byt _)
  · intro x hx; cases hx
theorem txV_byt' (s : ByteArray) : Byt (txV (ofS s)) := by
  unfold txV
  split
  · exact byt_app (num_byt _) (ofS_byt s)
  · intro x hx; cases hx
/-- A row of bytes that a call made, and where it lies. -/
theorem Ob.far {w : World} {B : Nat} {v : Value} {bs : List Nat} (h : Ob w B v bs) (hB : Byt bs) : ∃ A k cap, v = .slice A k cap ∧ Rd w A k cap bs ∧ ∀ b o, A = some ⟨b, o, none⟩ → B ≤ b := by
  obtain ⟨A, k, cap, rfl, hr⟩ := h.form hB
  refine ⟨A, k, cap, rfl, hr, fun b o e => ?_⟩
  subst e
  exact h.block rfl
theorem Rd.grown {w w' : World} {A : Option Addr} {k cap : Nat} {bs : List Nat} {row : Option Nat} (h : Rd w A k cap bs) (hg : w.grownBy w' row) (hr : ∀ b o, A = some ⟨b, o, none⟩ → row ≠ some b) : Rd w' A k cap bs :=
  ⟨fun i y hi => by
    obtain ⟨b, o, e, hl, hc, hy⟩ := h.cells i y hi
    exact ⟨b, o, e, Nat.lt_of_lt_of_le hl hg.size, (hg.cell_far ⟨b, o + i, none⟩ hl (fun e2 => hr b o e e2.symm)).trans hc, hy⟩, h.len, h.le, h.max, h.nil⟩
theorem wpList_appg {w : World} {ops : Array Oper} {rest : List Oper} {o : Oper} {a : Act} {Q : Exit → Act → World → Prop} (hgd : o.guard = none) (s x : Operand) (tx : TypeId)
    (ho : o.op = .call { callee := .builtin .append, args := #[s, x], argTypes := #[40, tx] })
    (base : Nat) (v : Value) (xs : List Nat) (hs : a.eval s = v) (hown : Ob w base v xs) (xv : Value) (news : List Nat) (hx : a.eval x = xv)
    (hsrc : Src Try.prog 1 tx xv news.length (bc news) w) (hbig : xs.length + news.length ≤ 140737488400000) (hbase : base ≤ w.heap.size)
    (h : ∀ v' w', Ob w' base v' (xs ++ news) → Below base w w' → w.grownBy w' v.ownBlock → wpList Try.prog ops Q rest (a.put o.dst v') w') : wpList Try.prog ops Q (o :: rest) a w := by
  obtain ⟨v', w', hr, h2, h3⟩ := run_app base tx o.type v xs hown xv news hsrc hbig hbase
  have hb : Below base w w' := (Below.refl base w).grown h3 hbase fun k hk => hown.block hk
  refine wpList_plain hgd fun _ hK => ?_
  unfold Oper.wp execOp
  simp only [ho, resolve, invoke, builtin, Sem.run_bind, Sem.run_pure, Result.andThen_ok, List.map_toArray, List.map_cons, List.map_nil, hs, hx, hr]
  exact hK _ _ (h v' w' h2 hb h3)
theorem oi_new {w : World} {g B : Nat} (hg : w.heap.size = g) (hB : B ≤ g) (y : Int) : Oi (w.alloc (.cells #[.int .i64 y] 3)) B (.slice (some ⟨g, 0, none⟩) 1 1) [y] := by
  subst hg
  exact ⟨rfl, .inr ⟨w.heap.size, 1, _, rfl, hB, heap_alloc_new w _, Nat.le_refl _, by unfold maxLen; omega, rfl, rfl⟩⟩
section
variable {w : World}
theorem typeNumbers_any (t : Ty) (FA : Option Addr) (fk fc : Nat) (h : Lf w FA fk fc t.fields) (hk : fk ≤ 12) :
    Calls Try.prog 33 #[.agg #[.string t.name, .bool t.value, .bool t.refs, .slice FA fk fc]] w fun e w' => ∃ v', e = .returned v' ∧ Oi w' w.heap.size v' (nums t) ∧ Below w.heap.size w w' := by
  obtain ⟨tn, tv, tr, fs⟩ := t
  simp only at h ⊢
  have HL := Lib.hid h.len
  have hle := h.le
  have hmx := h.max
  have H := Lib.hid h
  clear h
  have HNU := Lib.hid (show nums ⟨tn, tv, tr, fs⟩ = flg tv tr :: fs.flatMap nf from rfl)
  obtain ⟨fl, hfl⟩ : ∃ fl, fl = flg tv tr := ⟨_, rfl⟩
  rw [← hfl] at HNU
  have HFL := Lib.hid hfl
  clear hfl
  cases tv <;> cases tr
  all_goals
    go_enter Try.func33, Try.ntmps33
    go_wp2_with fail
    go_loopw [4, 20] (fun u i wr => ∃ j : Nat, j ≤ fk ∧ i = .int .i64 j ∧ Hid (Oi wr w.heap.size u (fl :: (fs.take j).flatMap nf)) ∧ Hid (Below w.heap.size w wr)) (fun _ i _ => fk - (intOf i).toNat)
    case atStart =>
      refine ⟨0, Nat.zero_le _, rfl, ?_, by show Below _ _ _; (repeat' (first | exact Below.refl _ _ | assumption | (refine Below.alloc ?_ (by (try simp) <;> omega) _)))⟩
      show Oi _ _ _ [fl]
      rw [HFL.out]
      exact oi_new (by simp) (by omega) _
    case round =>
      obtain ⟨j, hj, rfl, HO, HW⟩ := hrel
      have hws := HW.out.size
      by_cases hlt : j < fk
      · obtain ⟨b, o, f, rfl, hf, hok, hb, c0, c1, c2, c3, c4⟩ := (H.out.below HW.out (Nat.le_refl _)).at j hlt
        have hji : (j : Int) < (fk : Int) := by omega
        obtain ⟨kd, ln, ty, lk, ky⟩ := f
        simp only at c0 c1 c2 c3 c4
        have LA := Lib.hid (show (fl :: (fs.take j).flatMap nf).length + [kd, ln, ty, lk, ky].length ≤ 1000000 by
          rw [List.length_cons, nf_len, List.length_take]
          simp
          omega)
        clear hok
        go_wp2_with (at_builtin; refine wpList_iapps rfl _ _ 33 rfl w.heap.size _ _ rfl ((HO.out.alloc _).alloc _) _ [kd, ln, ty, lk, ky] rfl (src_new (by simp) [kd, ln, ty, lk, ky] 5 rfl _ rfl) LA.out (by simp; omega) ?_; intro v4 w4 h4 h5; have H4 := Lib.hid h4; have H5 := Lib.hid (((HW.out.alloc hws _).alloc (by simp; omega) _).trans h5); clear h4 h5)
        go_roundw
        case rel =>
          refine ⟨j + 1, by omega, by go_num, ?_, H5.out⟩
          show Oi _ _ _ _
          rw [nf_snoc hf.out]
          exact H4.out
        case measure => simp [intOf]; omega
      · obtain rfl : j = fk := by omega
        have HT := Lib.hid (List.take_of_length_le (Nat.le_of_eq HL.out))
        go_wp2_with fail
        go_ret
        rw [HNU.out]
        have := HO.out
        rw [HT.out] at this
        exact ⟨_, rfl, this, HW.out⟩
end
end Go.Proofs.Ytnkjlocjfljjlaa
