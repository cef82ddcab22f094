/- The document's cut, digits, with and Read in the mind: what it finds is what rd does. No condition. -/
import Derived.Test.YtcedjjolikmbbaaDoorJTextM
import Derived.Test.YtcedjjolikmbbaaDoorITwice2
import Derived.Test.YtcedjjolikmbbaaDoorJDec
namespace Go.Proofs.YtcedjjolikmbbaaDoor
set_option maxRecDepth 100000
def digs : List UInt8 → Nat → Option Nat
  | [], a => some a
  | c :: r, a => if 48 ≤ c.toNat ∧ c.toNat ≤ 57 then digs r (10 * a + (c.toNat - 48)) else none
def rdg (w : List UInt8) (n : Nat) : Nat × Bool := if w.length ≤ n ∨ n + 10 < w.length then (0, false) else match digs (w.drop n) 0 with
  | none => (0, false)
  | some v => (v % 4294967296, decide (v < 4294967296))
def rwith (i : In) (c : UInt8) (v : Nat) : In := if c = 65 then { i with a := v % 256 } else if c = 66 then { i with b := v % 256 } else if c = 67 then { i with c := v % 256 } else { i with im := v }
def rsn (p : UInt8 × UInt8) : Nat := if p.2 = 110 then 0 else 1
def rstep (i : In) (q : (UInt8 × UInt8) × List UInt8) : In := if (rdg q.2 (rsn q.1)).2 = true ∧ q.1.2 ≠ 119 then rwith i q.1.1 (rdg q.2 (rsn q.1)).1 else i
def rZ (s : List UInt8) (op : Nat) : List ((UInt8 × UInt8) × List UInt8) := (paN op).zip (sp s).tail
def cand (s : List UInt8) (op c : Nat) (j : Nat) : In := ((rZ s op).take j).foldl rstep ⟨op, 0, 0, c, 0⟩
def candA (s : List UInt8) (op c : Nat) : In := (rZ s op).foldl rstep ⟨op, 0, 0, c, 0⟩
def good6 (s : List UInt8) (op c : Nat) : Prop := (sp s).length = 1 + (paN op).length ∧ ck (candA s op c) = 0 ∧ tx (candA s op c) = s
theorem rdg_lt (w : List UInt8) (n : Nat) : (rdg w n).1 < 4294967296 := by
  unfold rdg
  split
  · simp
  · split
    · simp
    · simp; omega
theorem rwith_ok {i : In} (h : i.ok) (c : UInt8) {v : Nat} (hv : v < 4294967296) : (rwith i c v).ok := by
  obtain ⟨h1, h2, h3, h4, h5⟩ := h
  unfold rwith In.ok
  (repeat' split) <;> (refine ⟨?_, ?_, ?_, ?_, ?_⟩ <;> (try simp only) <;> omega)
theorem rstep_ok {i : In} (h : i.ok) (q : (UInt8 × UInt8) × List UInt8) : (rstep i q).ok := by
  unfold rstep
  split
  · exact rwith_ok h _ (rdg_lt _ _)
  · exact h
theorem fold_ok : ∀ (l : List ((UInt8 × UInt8) × List UInt8)) {i : In}, i.ok → (l.foldl rstep i).ok
  | [], _, h => h
  | q :: r, _, h => fold_ok r (rstep_ok h q)
theorem cand_ok (s : List UInt8) {op c : Nat} (ho : op < 256) (hc : c < 256) (j : Nat) : (cand s op c j).ok := fold_ok _ ⟨ho, by simp, by simp, hc, by simp⟩
theorem candA_ok (s : List UInt8) {op c : Nat} (ho : op < 256) (hc : c < 256) : (candA s op c).ok := fold_ok _ ⟨ho, by simp, by simp, hc, by simp⟩
theorem cand_zero (s : List UInt8) (op c : Nat) : cand s op c 0 = ⟨op, 0, 0, c, 0⟩ := by simp [cand]
theorem cand_succ {s : List UInt8} {op c j : Nat} {p : UInt8 × UInt8} {y : List UInt8} (h1 : (paN op)[j]? = some p) (h2 : (sp s)[j + 1]? = some y) : cand s op c (j + 1) = rstep (cand s op c j) (p, y) := by
  have hz : (rZ s op)[j]? = some (p, y) := by
    unfold rZ
    rw [List.getElem?_zip_eq_some]
    refine ⟨h1, ?_⟩
    rw [List.getElem?_tail]
    exact h2
  unfold cand
  rw [List.take_add_one, hz]
  simp [List.foldl_append]
theorem cand_all (s : List UInt8) (op c : Nat) {j : Nat} (h : (paN op).length ≤ j) : cand s op c j = candA s op c := by
  unfold cand candA
  rw [List.take_of_length_le]
  unfold rZ
  rw [List.length_zip]
  omega
theorem digs_app : ∀ (l m : List UInt8) (a : Nat), digs (l ++ m) a = (digs l a).bind (digs m)
  | [], m, a => rfl
  | c :: r, m, a => by
    rw [List.cons_append]
    unfold digs
    split
    · exact digs_app r m _
    · rfl
theorem digs_dec : ∀ (n v : Nat), v < n → digs (Lib.decDigits v) 0 = some v
  | 0, v, h => absurd h (by omega)
  | n + 1, v, h => by
    have hd : (UInt8.ofNat (48 + v % 10)).toNat = 48 + v % 10 := by
      rw [UInt8.toNat_ofNat']; omega
    by_cases h10 : v < 10
    · rw [dec_small h10]
      unfold digs
      rw [hd, if_pos (by omega)]
      unfold digs
      congr 1
      omega
    · rw [dec_big h10, digs_app, digs_dec n (v / 10) (by omega)]
      simp only [Option.bind_some]
      unfold digs
      rw [hd, if_pos (by omega)]
      unfold digs
      congr 1
      omega
theorem rdg_dec0 {v : Nat} (hv : v < 4294967296) : rdg (Lib.decDigits v) 0 = (v, true) := by
  have h1 := dec_len10 v hv
  have h2 : 0 < (Lib.decDigits v).length := List.length_pos_iff.2 (dec_ne v)
  unfold rdg
  rw [if_neg (by omega), List.drop_zero, digs_dec (v + 1) v (by omega)]
  simp [hv, Nat.mod_eq_of_lt hv]
theorem rdg_dec1 (x : UInt8) {v : Nat} (hv : v < 4294967296) : rdg (x :: Lib.decDigits v) 1 = (v, true) := by
  have h1 := dec_len10 v hv
  have h2 : 0 < (Lib.decDigits v).length := List.length_pos_iff.2 (dec_ne v)
  unfold rdg
  rw [if_neg (by simp only [List.length_cons]; omega)]
  simp only [List.drop_succ_cons, List.drop_zero]
  rw [digs_dec (v + 1) v (by omega)]
  simp [hv, Nat.mod_eq_of_lt hv]
theorem rtxL_jn (i : In) : ∀ (l : List (UInt8 × UInt8)) (s : List UInt8), rtxL i l s = jn (s :: l.map (rwd i))
  | [], s => by simp [rtxL, jn]
  | p :: r, s => by
    have ih := rtxL_jn i r (s ++ (32 :: rwd i p))
    unfold rtxL at ih ⊢
    rw [List.foldl_cons, ih, jn_app, jn_cons]
    rfl
theorem dec_plain (v : Nat) : (32 : UInt8) ∉ Lib.decDigits v := fun h => by
  have := dec_digits v 32 h
  have e : (32 : UInt8).toNat = 32 := rfl
  omega
theorem wo_plain (op c : Nat) : (32 : UInt8) ∉ (woN op).getD c [] := by
  have go : ∀ l : List (List UInt8), (∀ x ∈ l, (32 : UInt8) ∉ x) → (32 : UInt8) ∉ l.getD c [] := fun l hl => by
    rw [List.getD_eq_getElem?_getD]
    cases e : l[c]? with
    | none => simp
    | some x => exact hl x (List.mem_of_getElem? e)
  unfold woN
  split
  · exact go _ (by decide)
  · split
    · exact go _ (by decide)
    · split
      · exact go _ (by decide)
      · simp
theorem rwd_plain (i : In) (p : UInt8 × UInt8) : (32 : UInt8) ∉ rwd i p := by
  have hd := dec_plain (rvl i p.1)
  unfold rwd
  split
  · simp [hd]
  · split
    · rename_i h
      rcases h with h | h | h <;> simp [h, hd]
    · split
      · exact wo_plain _ _
      · exact hd
theorem sp_of {j : In} (hj : j.ok) (h : ck j = 0) : sp (tx j) = fw j :: (paN j.op).map (rwd j) := by
  rw [← rtx_tx hj h, rtxL_jn, sp_jn _ (by simp)]
  intro w hw
  rcases List.mem_cons.1 hw with rfl | hw
  · exact fw_plain j
  · obtain ⟨p, _, rfl⟩ := List.mem_map.1 hw
    exact rwd_plain j p
/-- What is asked of C. -/
def cOf (j : In) : Nat := if 0 < (woN j.op).length then j.c else 0
theorem cand_back {j : In} (hj : j.ok) (h : ck j = 0) : candA (tx j) j.op (cOf j) = j ∧ cOf j ≤ (woN j.op).length := by
  have hs := sp_of hj h
  obtain ⟨⟨h1, h2⟩, hf⟩ := ck_fit hj h
  have hz := h
  rw [← rck_ck j hj] at hz
  unfold candA rZ
  rw [hs, List.tail_cons]
  clear hs h
  obtain ⟨op, a, b, c, im⟩ := j
  obtain ⟨_, ha, hb, hc, him⟩ := hj
  simp only at h1 h2 hf ha hb hc him ⊢
  have da := fun x => rdg_dec1 x (v := a) (by omega)
  have db := fun x => rdg_dec1 x (v := b) (by omega)
  have dc := fun x => rdg_dec1 x (v := c) (by omega)
  have di := fun x => rdg_dec1 x (v := im) him
  have eb := rdg_dec0 (v := b) (by omega)
  have ei := rdg_dec0 (v := im) him
  have ma := Nat.mod_eq_of_lt ha
  have mb := Nat.mod_eq_of_lt hb
  have mc := Nat.mod_eq_of_lt hc
  rcases fifteen h1 h2 with rfl | rfl | rfl | rfl | rfl | rfl | rfl | rfl | rfl | rfl | rfl | rfl | rfl | rfl | rfl
  all_goals
    simp [rck, nmN, paN, paT, woN, aluT, condT, helpT, rfits, rfit, rvl, rbad, rin, abci] at hz hf
    simp [cOf, paN, paT, woN, aluT, condT, helpT, rwd, rvl, rstep, rsn, rwith, da, db, dc, di, eb, ei, ma, mb, mc]
    try ((repeat' split at hz) <;> omega)
theorem rd_miss {s : List UInt8} (h : ∀ op c, 1 ≤ op → op ≤ 15 → c ≤ (woN op).length → ¬ good6 s op c) : rd s = none := by
  cases e : rd s with
  | none => rfl
  | some j =>
    exfalso
    obtain ⟨hj, hc, rfl⟩ := tx_rd e
    obtain ⟨⟨h1, h2⟩, _⟩ := ck_fit hj hc
    obtain ⟨hb, hl⟩ := cand_back hj hc
    refine h j.op (cOf j) h1 h2 hl ⟨?_, ?_, ?_⟩
    · rw [sp_of hj hc]; simp; omega
    · rw [hb]; exact hc
    · rw [hb]
theorem rd_hit {s : List UInt8} {op c : Nat} (ho : op < 256) (hc : c < 256) (h : good6 s op c) : rd s = some (candA s op c) := by
  have := rd_tx (candA_ok s ho hc) h.2.1
  rwa [h.2.2] at this
end Go.Proofs.YtcedjjolikmbbaaDoor
