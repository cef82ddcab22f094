/- The contract of the document's Type. Condition: the types can be read. -/
import Derived.Test.YtnkjlocjfljjlaaTRField
import Derived.Test.YtnkjlocjfljjlaaTLayout
import Derived.Test.YtnkjlocjfljjlaaTCheckType
import Derived.Test.YtnkjlocjfljjlaaWName
import Derived.StillTailTactics
namespace Go.Proofs.Ytnkjlocjfljjlaa
open Go.RowKit
set_option maxRecDepth 100000
set_option maxHeartbeats 4000000
theorem str_ne' {x y : ByteArray} (h : x ≠ y) : (x.toList == y.toList) = false := by
  rw [beq_eq_false_iff_ne, ByteArray.toList_eq, ByteArray.toList_eq]
  intro e
  apply h
  obtain ⟨⟨_⟩⟩ := x
  obtain ⟨⟨_⟩⟩ := y
  simp_all
theorem Lf.five {w : World} {b o k cap i : Nat} {fs : List Fd} {f : Fd} (h : Lf w (some ⟨b, o, none⟩) k cap fs) (hf : fs[i]? = some f) :
    w.cell? ⟨b, o + i * 5, none⟩ = some (.int .i64 f.kind) ∧ w.cell? ⟨b, o + i * 5 + 1, none⟩ = some (.int .i64 f.len) ∧ w.cell? ⟨b, o + i * 5 + 2, none⟩ = some (.int .i64 f.ty) ∧
    w.cell? ⟨b, o + i * 5 + 3, none⟩ = some (.int .i64 f.link) ∧ w.cell? ⟨b, o + i * 5 + 4, none⟩ = some (.int .i64 f.key) := by
  obtain ⟨b', o', e, _, _, c⟩ := h.cells i f hf
  injection e with e
  injection e with e1 e2
  subst e1 e2
  exact c
theorem tp_dup {ts : List Ty} {i : Nat} {t : Ty} (h : ts[i]? = some t) (hd : dup ts i t.name = true) : tpE ts i = 3 := by unfold tpE; rw [h]; simp [hd]
theorem tp_name {ts : List Ty} {i : Nat} {t : Ty} (h : ts[i]? = some t) (hn : nm (ofS t.name) = false) : tpE ts i = 3 := by unfold tpE; rw [h]; simp [hn]
theorem tp_go {ts : List Ty} {i : Nat} {t : Ty} (h : ts[i]? = some t) (hn : nm (ofS t.name) = true) (hd : dup ts i t.name = false) : tpE ts i = tyE ts t := by unfold tpE; rw [h]; simp [hn, hd]
section
variable {w : World}
theorem rtype_any (A : Option Addr) (n cap : Nat) (ts : List Ty) (h : Lt w A n cap ts) (i : Nat) (hi : i < n) :
    Calls Try.prog 26 #[.slice A n cap, .int .i64 i] w fun e w' => e = .returned (.int .i64 (tpE ts i : Nat)) ∧ Below w.heap.size w w' := by
  have hle := h.le
  have hmx := h.max
  obtain ⟨b, o, t, FA, fk, fc, rfl, hu, hnm, hb, c0, c1, c2, c3, hf⟩ := h.at i hi
  have HT := Lib.hid (show tpE ts i = if (dup ts i t.name || !nm (ofS t.name)) = true then 3 else tyE ts t by unfold tpE; rw [hu.out])
  have hfl := hf.out.le
  have hfm := hf.out.max
  have FL := Lib.hid hf.out.len
  have H := Lib.hid h
  clear h
  obtain ⟨tn, tv, tr, fs⟩ := t
  simp only at c0 c1 c2 hf FL HT hnm
  obtain ⟨w0, hw0⟩ : ∃ w0, w0 = w.alloc (Obj.cells #[.string tn, .bool tv, .bool tr, .slice FA fk fc] 32) := ⟨_, rfl⟩
  have B0 := Lib.hid (show Blk w0 w.heap.size 32 #[.string tn, .bool tv, .bool tr, .slice FA fk fc] by rw [hw0]; exact Blk.new _ _ _)
  have L0 := Lib.hid (show Below w.heap.size w w0 by rw [hw0]; (repeat' (first | exact Below.refl _ _ | assumption | (refine Below.alloc ?_ (by (try simp) <;> omega) _))))
  have S0 : w0.heap.size = w.heap.size + 1 := by rw [hw0]; simp
  have HW0 := Lib.hid hw0
  have SS := Lib.hid S0
  clear hw0 S0
  cases hn : nm (ofS tn)
  · have HN := Lib.hid hn
    have HE := Lib.hid (show tpE ts i = 3 by rw [HT.out, hn]; simp)
    clear hn
    go_enter Try.func26, Try.ntmps26
    go_wp2_with (go_at_call 44; rw [← HW0.out]; refine (rname_any tn hnm).mono ?_; rintro e w1 ⟨rfl, rfl⟩; rw [HN.out])
    go_ret
    rw [HE.out]
    exact ⟨rfl, L0.out⟩
  · have HN := Lib.hid hn
    clear hn
    go_enter Try.func26, Try.ntmps26
    go_wp2_with (go_at_call 44; rw [← HW0.out]; refine (rname_any tn hnm).mono ?_; rintro e w1 ⟨rfl, rfl⟩; rw [HN.out])
    go_loopw [6] (fun k wr => ∃ j : Nat, j ≤ i ∧ k = .int .i64 j ∧ Hid (∀ (t : Nat) (u : Ty), t < j → ts[t]? = some u → u.name ≠ tn) ∧ Hid (Below w0.heap.size w0 wr)) (fun k _ => i - (intOf k).toNat)
    case atStart => exact ⟨0, Nat.zero_le _, rfl, fun t x ht => absurd ht (by omega), Below.refl _ _⟩
    case round =>
      obtain ⟨j, hj, rfl, HZ, HW0r⟩ := hrel
      have HW := Lib.hid (L0.out.trans (HW0r.out.mono (by rw [SS.out]; omega)))
      obtain ⟨d0, d1, d2, d3⟩ := four B0.out HW0r.out (by rw [SS.out]; omega)
      by_cases hlt : j < i
      · obtain ⟨b', o', u, FA', fk', fc', e1, hu', hnm', hb', q0, q1, q2, q3, hf'⟩ := (H.out.below HW.out (Nat.le_refl _)).at j (by omega)
        injection e1 with e1
        injection e1 with e1 e2
        subst e1 e2
        have hji : (j : Int) < (i : Int) := by omega
        have hjn : (j : Int) < (n : Int) := by omega
        by_cases hs : u.name = tn
        · subst hs
          have HE := Lib.hid (tp_dup hu.out (dup_true hlt hu'.out rfl))
          go_wp2_with fail
          go_quiet (fail)
          go_wp2_with fail
          go_ret
          rw [HE.out]
          exact ⟨rfl, below_drewN HW.out _⟩
        · have hs' := str_ne' hs
          go_wp2_with fail
          go_quiet (fail)
          go_wp2_with fail
          go_roundw
          case rel =>
            refine ⟨j + 1, by omega, by go_num, ?_, below_drewN HW0r.out _⟩
            intro t x ht hx
            rcases Nat.lt_or_ge t j with h1 | h1
            · exact HZ.out t x h1 hx
            · obtain rfl : t = j := by omega
              rw [hu'.out] at hx
              injection hx with hx
              rw [← hx]
              exact hs
          case measure => simp [intOf]; omega
      · obtain rfl : j = i := by omega
        have HD := Lib.hid (tp_go hu.out HN.out (dup_false HZ.out))
        clear hlt
        by_cases hk : 12 < fk
        · have HE := Lib.hid (HD.out.trans (ty_big (show 12 < fs.length by rw [FL.out]; exact hk)))
          go_wp2_with fail
          go_ret
          rw [HE.out]
          exact ⟨rfl, HW.out⟩
        · have hk2 : fk ≤ 12 := by omega
          have HK := Lib.hid (show ¬ 12 < fs.length by rw [FL.out]; exact hk)
          cases tv
          · go_wp2_with fail
            go_loopw [7, 8, 9, 10] (fun a p q k wr => ∃ (j : Nat) (S : Int) (P Q : Nat), j ≤ fk ∧ 0 ≤ S ∧ S ≤ 128 * j ∧ P ≤ j ∧ Q ≤ j ∧ k = .int .i64 j ∧ a = .int .i64 (8 + S) ∧ p = .int .i64 P ∧ q = .int .i64 Q ∧ Hid (szs (fs.take j) = S) ∧ Hid (lks (fs.take j) = P) ∧ Hid (grs (fs.take j) = Q) ∧ Hid (∀ (t : Nat) (x : Fd), t < j → fs[t]? = some x → fdE ts false x = 0) ∧ Hid (Below w0.heap.size w0 wr)) (fun _ _ _ k _ => fk - (intOf k).toNat)
            case atStart => exact ⟨0, 0, 0, 0, Nat.zero_le _, by omega, by omega, Nat.le_refl _, Nat.le_refl _, rfl, rfl, rfl, rfl, rfl, rfl, rfl, fun t x ht => absurd ht (by omega), HW0r.out⟩
            case round =>
              clear HW HW0r d0 d1 d2 d3
              obtain ⟨j, S, P, Q, hj, hS0, hS1, hP, hQ, rfl, rfl, rfl, rfl, HS, HP, HQQ, HZ, HW0r⟩ := hrel
              have HW := Lib.hid (L0.out.trans (HW0r.out.mono (by rw [SS.out]; omega)))
              have hws := HW0r.out.size
              have hws0 : w.heap.size + 1 ≤ wr.heap.size := by rw [← SS.out]; exact hws
              obtain ⟨d0, d1, d2, d3⟩ := four B0.out HW0r.out (by rw [SS.out]; omega)
              by_cases hlt : j < fk
              · obtain ⟨fb, fo, f, rfl, hf', hok, hb', c0, c1, c2, c3, c4⟩ := (hf.out.below HW.out (Nat.le_refl _)).at j hlt
                have hji : (j : Int) < (fk : Int) := by omega
                obtain ⟨kd, ln, ty, lk, ky⟩ := f
                simp only at c0 c1 c2 c3 c4
                clear hok
                obtain ⟨q, hq⟩ : ∃ q : Nat, fdE ts false ⟨kd, ln, ty, lk, ky⟩ = q := ⟨_, rfl⟩
                have HQ := Lib.hid hq
                clear hq
                go_wp2_with fail
                go_still_tail 7, (by kernel_rfl)
                change wpList _ _ _ _ _ wr.drew
                have X2 := Lib.hid HW0r.out.drew
                have C2 := Lib.hid (And.intro d0 (And.intro d1 (And.intro d2 d3)))
                have HXX := Lib.hid (L0.out.trans (X2.out.mono (by rw [SS.out]; omega)))
                have hs2 : w.heap.size + 1 ≤ wr.drew.heap.size := hws0
                by_cases hq0 : q = 0
                case neg =>
                  have HE := Lib.hid (HD.out.trans (ty_field HK.out rfl HZ.out hf'.out (show fdE ts false ⟨kd, ln, ty, lk, ky⟩ ≠ 0 by rw [HQ.out]; exact hq0)))
                  have hqn : ((q : Int) != 0) = true := by simpa using hq0
                  go_wp2_with (go_at_call 45; refine (rfield_any (some ⟨b, o, none⟩) n cap ts (H.out.below HXX.out (Nat.le_refl _)) tn false tr (.slice (some ⟨fb, fo, none⟩) fk fc) ⟨kd, ln, ty, lk, ky⟩).mono ?_; rintro e w3 ⟨rfl, hb3⟩; rw [HQ.out]; have X3 := Lib.hid (HXX.out.trans (hb3.mono (by omega))); clear hb3)
                  go_ret
                  rw [HE.out, show fdE ts (Ty.value ⟨tn, false, tr, fs⟩) ⟨kd, ln, ty, lk, ky⟩ = q from HQ.out]
                  exact ⟨rfl, X3.out⟩
                subst hq0
                obtain ⟨z, hz⟩ : ∃ z, z = fsz ⟨kd, ln, ty, lk, ky⟩ := ⟨_, rfl⟩
                have hzl : 0 ≤ z ∧ z ≤ 128 := by rw [hz]; exact fsz_le _
                obtain ⟨hz0, hz1⟩ := hzl
                have HZ2 := Lib.hid hz
                have H7 := Lib.hid (lks_take hf'.out)
                have H5 := Lib.hid (grs_take hf'.out)
                clear hz
                have h4 : kd = 7 ∨ kd = 5 ∨ kd = 6 ∨ (kd ≠ 7 ∧ kd ≠ 5 ∧ kd ≠ 6) := by omega
                rcases h4 with rfl | rfl | rfl | ⟨h7, h5, h6⟩
                · have PP := Lib.hid (show lks (fs.take (j + 1)) = P + 1 by rw [H7.out, HP.out]; rfl)
                  have QQ := Lib.hid (show grs (fs.take (j + 1)) = Q by rw [H5.out, HQQ.out]; rfl)
                  go_wp2_with (go_at_call 45; refine (rfield_any (some ⟨b, o, none⟩) n cap ts (H.out.below HXX.out (Nat.le_refl _)) tn false tr (.slice (some ⟨fb, fo, none⟩) fk fc) ⟨7, ln, ty, lk, ky⟩).mono ?_; rintro e w3 ⟨rfl, hb3⟩; rw [HQ.out]; have X3 := Lib.hid (X2.out.trans (hb3.mono hws)); have hs3 := hb3.size; have HX3 := Lib.hid (HXX.out.trans (hb3.mono (by omega))); obtain ⟨p0, p1, p2, p3⟩ := four B0.out X3.out (by rw [SS.out]; omega); obtain ⟨q0, q1, q2, q3, q4⟩ := (hf.out.below HX3.out (Nat.le_refl _)).five hf'.out; simp only at q0 q1 q2 q3 q4; clear hb3)
                  go_wp2_with (go_at_call 29; refine (rsize_any ⟨7, ln, ty, lk, ky⟩).mono ?_; rintro e w4 ⟨rfl, hb4⟩; rw [← HZ2.out]; have X4 := Lib.hid (X3.out.trans (hb4.mono (Nat.le_trans hws hs3))); have hs4 := hb4.size; have HX4 := Lib.hid (HX3.out.trans (hb4.mono (by omega))); obtain ⟨p0, p1, p2, p3⟩ := four B0.out X4.out (by rw [SS.out]; omega); obtain ⟨r0, r1, r2, r3, r4⟩ := (hf.out.below HX4.out (Nat.le_refl _)).five hf'.out; simp only at r0 r1 r2 r3 r4; clear hb4)
                  go_roundw
                  case rel => exact ⟨j + 1, S + z, P + 1, Q, by omega, by omega, by omega, by omega, by omega, by go_num, by go_num, by go_num, rfl, by show _ = _; rw [szs_take hf'.out, HS.out, HZ2.out], PP.out, QQ.out, all_snoc HZ.out hf'.out HQ.out, X4.out⟩
                  case measure => simp [intOf]; omega
                · have PP := Lib.hid (show lks (fs.take (j + 1)) = P by rw [H7.out, HP.out]; rfl)
                  have QQ := Lib.hid (show grs (fs.take (j + 1)) = Q + 1 by rw [H5.out, HQQ.out]; rfl)
                  go_wp2_with (go_at_call 45; refine (rfield_any (some ⟨b, o, none⟩) n cap ts (H.out.below HXX.out (Nat.le_refl _)) tn false tr (.slice (some ⟨fb, fo, none⟩) fk fc) ⟨5, ln, ty, lk, ky⟩).mono ?_; rintro e w3 ⟨rfl, hb3⟩; rw [HQ.out]; have X3 := Lib.hid (X2.out.trans (hb3.mono hws)); have hs3 := hb3.size; have HX3 := Lib.hid (HXX.out.trans (hb3.mono (by omega))); obtain ⟨p0, p1, p2, p3⟩ := four B0.out X3.out (by rw [SS.out]; omega); obtain ⟨q0, q1, q2, q3, q4⟩ := (hf.out.below HX3.out (Nat.le_refl _)).five hf'.out; simp only at q0 q1 q2 q3 q4; clear hb3)
                  go_wp2_with (go_at_call 29; refine (rsize_any ⟨5, ln, ty, lk, ky⟩).mono ?_; rintro e w4 ⟨rfl, hb4⟩; rw [← HZ2.out]; have X4 := Lib.hid (X3.out.trans (hb4.mono (Nat.le_trans hws hs3))); have hs4 := hb4.size; have HX4 := Lib.hid (HX3.out.trans (hb4.mono (by omega))); obtain ⟨p0, p1, p2, p3⟩ := four B0.out X4.out (by rw [SS.out]; omega); obtain ⟨r0, r1, r2, r3, r4⟩ := (hf.out.below HX4.out (Nat.le_refl _)).five hf'.out; simp only at r0 r1 r2 r3 r4; clear hb4)
                  go_roundw
                  case rel => exact ⟨j + 1, S + z, P, Q + 1, by omega, by omega, by omega, by omega, by omega, by go_num, by go_num, rfl, by go_num, by show _ = _; rw [szs_take hf'.out, HS.out, HZ2.out], PP.out, QQ.out, all_snoc HZ.out hf'.out HQ.out, X4.out⟩
                  case measure => simp [intOf]; omega
                · have PP := Lib.hid (show lks (fs.take (j + 1)) = P by rw [H7.out, HP.out]; rfl)
                  have QQ := Lib.hid (show grs (fs.take (j + 1)) = Q + 1 by rw [H5.out, HQQ.out]; rfl)
                  go_wp2_with (go_at_call 45; refine (rfield_any (some ⟨b, o, none⟩) n cap ts (H.out.below HXX.out (Nat.le_refl _)) tn false tr (.slice (some ⟨fb, fo, none⟩) fk fc) ⟨6, ln, ty, lk, ky⟩).mono ?_; rintro e w3 ⟨rfl, hb3⟩; rw [HQ.out]; have X3 := Lib.hid (X2.out.trans (hb3.mono hws)); have hs3 := hb3.size; have HX3 := Lib.hid (HXX.out.trans (hb3.mono (by omega))); obtain ⟨p0, p1, p2, p3⟩ := four B0.out X3.out (by rw [SS.out]; omega); obtain ⟨q0, q1, q2, q3, q4⟩ := (hf.out.below HX3.out (Nat.le_refl _)).five hf'.out; simp only at q0 q1 q2 q3 q4; clear hb3)
                  go_wp2_with (go_at_call 29; refine (rsize_any ⟨6, ln, ty, lk, ky⟩).mono ?_; rintro e w4 ⟨rfl, hb4⟩; rw [← HZ2.out]; have X4 := Lib.hid (X3.out.trans (hb4.mono (Nat.le_trans hws hs3))); have hs4 := hb4.size; have HX4 := Lib.hid (HX3.out.trans (hb4.mono (by omega))); obtain ⟨p0, p1, p2, p3⟩ := four B0.out X4.out (by rw [SS.out]; omega); obtain ⟨r0, r1, r2, r3, r4⟩ := (hf.out.below HX4.out (Nat.le_refl _)).five hf'.out; simp only at r0 r1 r2 r3 r4; clear hb4)
                  go_roundw
                  case rel => exact ⟨j + 1, S + z, P, Q + 1, by omega, by omega, by omega, by omega, by omega, by go_num, by go_num, rfl, by go_num, by show _ = _; rw [szs_take hf'.out, HS.out, HZ2.out], PP.out, QQ.out, all_snoc HZ.out hf'.out HQ.out, X4.out⟩
                  case measure => simp [intOf]; omega
                · have h7' : (kd == 7) = false := by simp [h7]
                  have h5' : (kd == 5) = false := by simp [h5]
                  have h6' : (kd == 6) = false := by simp [h6]
                  have PP := Lib.hid (show lks (fs.take (j + 1)) = P by rw [H7.out, HP.out]; simp [h7])
                  have QQ := Lib.hid (show grs (fs.take (j + 1)) = Q by rw [H5.out, HQQ.out]; simp [h5, h6])
                  go_wp2_with (go_at_call 45; refine (rfield_any (some ⟨b, o, none⟩) n cap ts (H.out.below HXX.out (Nat.le_refl _)) tn false tr (.slice (some ⟨fb, fo, none⟩) fk fc) ⟨kd, ln, ty, lk, ky⟩).mono ?_; rintro e w3 ⟨rfl, hb3⟩; rw [HQ.out]; have X3 := Lib.hid (X2.out.trans (hb3.mono hws)); have hs3 := hb3.size; have HX3 := Lib.hid (HXX.out.trans (hb3.mono (by omega))); obtain ⟨p0, p1, p2, p3⟩ := four B0.out X3.out (by rw [SS.out]; omega); obtain ⟨q0, q1, q2, q3, q4⟩ := (hf.out.below HX3.out (Nat.le_refl _)).five hf'.out; simp only at q0 q1 q2 q3 q4; clear hb3)
                  go_wp2_with (go_at_call 29; refine (rsize_any ⟨kd, ln, ty, lk, ky⟩).mono ?_; rintro e w4 ⟨rfl, hb4⟩; rw [← HZ2.out]; have X4 := Lib.hid (X3.out.trans (hb4.mono (Nat.le_trans hws hs3))); have hs4 := hb4.size; have HX4 := Lib.hid (HX3.out.trans (hb4.mono (by omega))); obtain ⟨p0, p1, p2, p3⟩ := four B0.out X4.out (by rw [SS.out]; omega); obtain ⟨r0, r1, r2, r3, r4⟩ := (hf.out.below HX4.out (Nat.le_refl _)).five hf'.out; simp only at r0 r1 r2 r3 r4; clear hb4)
                  go_roundw
                  case rel => exact ⟨j + 1, S + z, P, Q, by omega, by omega, by omega, by omega, by omega, by go_num, by go_num, rfl, rfl, by show _ = _; rw [szs_take hf'.out, HS.out, HZ2.out], PP.out, QQ.out, all_snoc HZ.out hf'.out HQ.out, X4.out⟩
                  case measure => simp [intOf]; omega
              · obtain rfl : j = fk := by omega
                have HT := Lib.hid (List.take_of_length_le (Nat.le_of_eq FL.out))
                have HA := Lib.hid (all_upto HZ.out (Nat.le_of_eq FL.out))
                have HS2 := Lib.hid (show szs fs = S by rw [← HS.out, HT.out])
                have HLK := Lib.hid (show lkF fs = decide (P = 1 ∨ (P = 0 ∧ Q = 0)) by rw [← HP.out, ← HQQ.out, HT.out]; rfl)
                have HLA := Lib.hid (laE_of (firstE_end HA.out) (Nat.not_lt.1 HK.out))
                by_cases hP1 : 1 < P
                · have HE := Lib.hid (HD.out.trans (ty_lock HK.out rfl HA.out (show lkF fs = false by rw [HLK.out]; simp; omega)))
                  go_wp2_with fail
                  go_ret
                  rw [HE.out]
                  exact ⟨rfl, HW.out⟩
                · by_cases hQ0 : 0 < Q
                  · by_cases hP0 : P < 1
                    · have HE := Lib.hid (HD.out.trans (ty_lock HK.out rfl HA.out (show lkF fs = false by rw [HLK.out]; simp; omega)))
                      go_wp2_with fail
                      go_ret
                      rw [HE.out]
                      exact ⟨rfl, HW.out⟩
                    · have HE := Lib.hid (HD.out.trans (ty_end HK.out rfl HA.out (show lkF fs = true by rw [HLK.out]; simp; omega)))
                      by_cases hS : 256 < 8 + S
                      · have HE2 := Lib.hid (show laE fs = 11 by rw [HLA.out, HS2.out, if_pos hS])
                        go_wp2_with fail
                        go_ret
                        rw [HE.out, show laE (Ty.fields ⟨tn, false, tr, fs⟩) = 11 from HE2.out]
                        exact ⟨rfl, HW.out⟩
                      · have HE2 := Lib.hid (show laE fs = 0 by rw [HLA.out, HS2.out, if_neg hS])
                        go_wp2_with fail
                        go_ret
                        rw [HE.out, show laE (Ty.fields ⟨tn, false, tr, fs⟩) = 0 from HE2.out]
                        exact ⟨rfl, HW.out⟩
                  · have HE := Lib.hid (HD.out.trans (ty_end HK.out rfl HA.out (show lkF fs = true by rw [HLK.out]; simp; omega)))
                    by_cases hS : 256 < 8 + S
                    · have HE2 := Lib.hid (show laE fs = 11 by rw [HLA.out, HS2.out, if_pos hS])
                      go_wp2_with fail
                      go_ret
                      rw [HE.out, show laE (Ty.fields ⟨tn, false, tr, fs⟩) = 11 from HE2.out]
                      exact ⟨rfl, HW.out⟩
                    · have HE2 := Lib.hid (show laE fs = 0 by rw [HLA.out, HS2.out, if_neg hS])
                      go_wp2_with fail
                      go_ret
                      rw [HE.out, show laE (Ty.fields ⟨tn, false, tr, fs⟩) = 0 from HE2.out]
                      exact ⟨rfl, HW.out⟩
          · cases tr
            · go_wp2_with fail
              go_loopw [7, 8, 9, 10] (fun a p q k wr => ∃ (j : Nat) (S : Int) (P Q : Nat), j ≤ fk ∧ 0 ≤ S ∧ S ≤ 128 * j ∧ P ≤ j ∧ Q ≤ j ∧ k = .int .i64 j ∧ a = .int .i64 (8 + S) ∧ p = .int .i64 P ∧ q = .int .i64 Q ∧ Hid (szs (fs.take j) = S) ∧ Hid (lks (fs.take j) = P) ∧ Hid (grs (fs.take j) = Q) ∧ Hid (∀ (t : Nat) (x : Fd), t < j → fs[t]? = some x → fdE ts true x = 0) ∧ Hid (Below w0.heap.size w0 wr)) (fun _ _ _ k _ => fk - (intOf k).toNat)
              case atStart => exact ⟨0, 0, 0, 0, Nat.zero_le _, by omega, by omega, Nat.le_refl _, Nat.le_refl _, rfl, rfl, rfl, rfl, rfl, rfl, rfl, fun t x ht => absurd ht (by omega), HW0r.out⟩
              case round =>
                clear HW HW0r d0 d1 d2 d3
                obtain ⟨j, S, P, Q, hj, hS0, hS1, hP, hQ, rfl, rfl, rfl, rfl, HS, HP, HQQ, HZ, HW0r⟩ := hrel
                have HW := Lib.hid (L0.out.trans (HW0r.out.mono (by rw [SS.out]; omega)))
                have hws := HW0r.out.size
                have hws0 : w.heap.size + 1 ≤ wr.heap.size := by rw [← SS.out]; exact hws
                obtain ⟨d0, d1, d2, d3⟩ := four B0.out HW0r.out (by rw [SS.out]; omega)
                by_cases hlt : j < fk
                · obtain ⟨fb, fo, f, rfl, hf', hok, hb', c0, c1, c2, c3, c4⟩ := (hf.out.below HW.out (Nat.le_refl _)).at j hlt
                  have hji : (j : Int) < (fk : Int) := by omega
                  obtain ⟨kd, ln, ty, lk, ky⟩ := f
                  simp only at c0 c1 c2 c3 c4
                  clear hok
                  obtain ⟨q, hq⟩ : ∃ q : Nat, fdE ts true ⟨kd, ln, ty, lk, ky⟩ = q := ⟨_, rfl⟩
                  have HQ := Lib.hid hq
                  clear hq
                  go_wp2_with fail
                  go_still_tail 7, (by kernel_rfl)
                  change wpList _ _ _ _ _ wr.drew
                  have X2 := Lib.hid HW0r.out.drew
                  have C2 := Lib.hid (And.intro d0 (And.intro d1 (And.intro d2 d3)))
                  have HXX := Lib.hid (L0.out.trans (X2.out.mono (by rw [SS.out]; omega)))
                  have hs2 : w.heap.size + 1 ≤ wr.drew.heap.size := hws0
                  by_cases hq0 : q = 0
                  case neg =>
                    have HE := Lib.hid (HD.out.trans (ty_field HK.out rfl HZ.out hf'.out (show fdE ts true ⟨kd, ln, ty, lk, ky⟩ ≠ 0 by rw [HQ.out]; exact hq0)))
                    have hqn : ((q : Int) != 0) = true := by simpa using hq0
                    go_wp2_with (go_at_call 45; refine (rfield_any (some ⟨b, o, none⟩) n cap ts (H.out.below HXX.out (Nat.le_refl _)) tn true false (.slice (some ⟨fb, fo, none⟩) fk fc) ⟨kd, ln, ty, lk, ky⟩).mono ?_; rintro e w3 ⟨rfl, hb3⟩; rw [HQ.out]; have X3 := Lib.hid (HXX.out.trans (hb3.mono (by omega))); clear hb3)
                    go_ret
                    rw [HE.out, show fdE ts (Ty.value ⟨tn, true, false, fs⟩) ⟨kd, ln, ty, lk, ky⟩ = q from HQ.out]
                    exact ⟨rfl, X3.out⟩
                  subst hq0
                  obtain ⟨z, hz⟩ : ∃ z, z = fsz ⟨kd, ln, ty, lk, ky⟩ := ⟨_, rfl⟩
                  have hzl : 0 ≤ z ∧ z ≤ 128 := by rw [hz]; exact fsz_le _
                  obtain ⟨hz0, hz1⟩ := hzl
                  have HZ2 := Lib.hid hz
                  have H7 := Lib.hid (lks_take hf'.out)
                  have H5 := Lib.hid (grs_take hf'.out)
                  clear hz
                  have h4 : kd = 7 ∨ kd = 5 ∨ kd = 6 ∨ (kd ≠ 7 ∧ kd ≠ 5 ∧ kd ≠ 6) := by omega
                  rcases h4 with rfl | rfl | rfl | ⟨h7, h5, h6⟩
                  · have PP := Lib.hid (show lks (fs.take (j + 1)) = P + 1 by rw [H7.out, HP.out]; rfl)
                    have QQ := Lib.hid (show grs (fs.take (j + 1)) = Q by rw [H5.out, HQQ.out]; rfl)
                    go_wp2_with (go_at_call 45; refine (rfield_any (some ⟨b, o, none⟩) n cap ts (H.out.below HXX.out (Nat.le_refl _)) tn true false (.slice (some ⟨fb, fo, none⟩) fk fc) ⟨7, ln, ty, lk, ky⟩).mono ?_; rintro e w3 ⟨rfl, hb3⟩; rw [HQ.out]; have X3 := Lib.hid (X2.out.trans (hb3.mono hws)); have hs3 := hb3.size; have HX3 := Lib.hid (HXX.out.trans (hb3.mono (by omega))); obtain ⟨p0, p1, p2, p3⟩ := four B0.out X3.out (by rw [SS.out]; omega); obtain ⟨q0, q1, q2, q3, q4⟩ := (hf.out.below HX3.out (Nat.le_refl _)).five hf'.out; simp only at q0 q1 q2 q3 q4; clear hb3)
                    go_wp2_with (go_at_call 29; refine (rsize_any ⟨7, ln, ty, lk, ky⟩).mono ?_; rintro e w4 ⟨rfl, hb4⟩; rw [← HZ2.out]; have X4 := Lib.hid (X3.out.trans (hb4.mono (Nat.le_trans hws hs3))); have hs4 := hb4.size; have HX4 := Lib.hid (HX3.out.trans (hb4.mono (by omega))); obtain ⟨p0, p1, p2, p3⟩ := four B0.out X4.out (by rw [SS.out]; omega); obtain ⟨r0, r1, r2, r3, r4⟩ := (hf.out.below HX4.out (Nat.le_refl _)).five hf'.out; simp only at r0 r1 r2 r3 r4; clear hb4)
                    go_roundw
                    case rel => exact ⟨j + 1, S + z, P + 1, Q, by omega, by omega, by omega, by omega, by omega, by go_num, by go_num, by go_num, rfl, by show _ = _; rw [szs_take hf'.out, HS.out, HZ2.out], PP.out, QQ.out, all_snoc HZ.out hf'.out HQ.out, X4.out⟩
                    case measure => simp [intOf]; omega
                  · have PP := Lib.hid (show lks (fs.take (j + 1)) = P by rw [H7.out, HP.out]; rfl)
                    have QQ := Lib.hid (show grs (fs.take (j + 1)) = Q + 1 by rw [H5.out, HQQ.out]; rfl)
                    go_wp2_with (go_at_call 45; refine (rfield_any (some ⟨b, o, none⟩) n cap ts (H.out.below HXX.out (Nat.le_refl _)) tn true false (.slice (some ⟨fb, fo, none⟩) fk fc) ⟨5, ln, ty, lk, ky⟩).mono ?_; rintro e w3 ⟨rfl, hb3⟩; rw [HQ.out]; have X3 := Lib.hid (X2.out.trans (hb3.mono hws)); have hs3 := hb3.size; have HX3 := Lib.hid (HXX.out.trans (hb3.mono (by omega))); obtain ⟨p0, p1, p2, p3⟩ := four B0.out X3.out (by rw [SS.out]; omega); obtain ⟨q0, q1, q2, q3, q4⟩ := (hf.out.below HX3.out (Nat.le_refl _)).five hf'.out; simp only at q0 q1 q2 q3 q4; clear hb3)
                    go_wp2_with (go_at_call 29; refine (rsize_any ⟨5, ln, ty, lk, ky⟩).mono ?_; rintro e w4 ⟨rfl, hb4⟩; rw [← HZ2.out]; have X4 := Lib.hid (X3.out.trans (hb4.mono (Nat.le_trans hws hs3))); have hs4 := hb4.size; have HX4 := Lib.hid (HX3.out.trans (hb4.mono (by omega))); obtain ⟨p0, p1, p2, p3⟩ := four B0.out X4.out (by rw [SS.out]; omega); obtain ⟨r0, r1, r2, r3, r4⟩ := (hf.out.below HX4.out (Nat.le_refl _)).five hf'.out; simp only at r0 r1 r2 r3 r4; clear hb4)
                    go_roundw
                    case rel => exact ⟨j + 1, S + z, P, Q + 1, by omega, by omega, by omega, by omega, by omega, by go_num, by go_num, rfl, by go_num, by show _ = _; rw [szs_take hf'.out, HS.out, HZ2.out], PP.out, QQ.out, all_snoc HZ.out hf'.out HQ.out, X4.out⟩
                    case measure => simp [intOf]; omega
                  · have PP := Lib.hid (show lks (fs.take (j + 1)) = P by rw [H7.out, HP.out]; rfl)
                    have QQ := Lib.hid (show grs (fs.take (j + 1)) = Q + 1 by rw [H5.out, HQQ.out]; rfl)
                    go_wp2_with (go_at_call 45; refine (rfield_any (some ⟨b, o, none⟩) n cap ts (H.out.below HXX.out (Nat.le_refl _)) tn true false (.slice (some ⟨fb, fo, none⟩) fk fc) ⟨6, ln, ty, lk, ky⟩).mono ?_; rintro e w3 ⟨rfl, hb3⟩; rw [HQ.out]; have X3 := Lib.hid (X2.out.trans (hb3.mono hws)); have hs3 := hb3.size; have HX3 := Lib.hid (HXX.out.trans (hb3.mono (by omega))); obtain ⟨p0, p1, p2, p3⟩ := four B0.out X3.out (by rw [SS.out]; omega); obtain ⟨q0, q1, q2, q3, q4⟩ := (hf.out.below HX3.out (Nat.le_refl _)).five hf'.out; simp only at q0 q1 q2 q3 q4; clear hb3)
                    go_wp2_with (go_at_call 29; refine (rsize_any ⟨6, ln, ty, lk, ky⟩).mono ?_; rintro e w4 ⟨rfl, hb4⟩; rw [← HZ2.out]; have X4 := Lib.hid (X3.out.trans (hb4.mono (Nat.le_trans hws hs3))); have hs4 := hb4.size; have HX4 := Lib.hid (HX3.out.trans (hb4.mono (by omega))); obtain ⟨p0, p1, p2, p3⟩ := four B0.out X4.out (by rw [SS.out]; omega); obtain ⟨r0, r1, r2, r3, r4⟩ := (hf.out.below HX4.out (Nat.le_refl _)).five hf'.out; simp only at r0 r1 r2 r3 r4; clear hb4)
                    go_roundw
                    case rel => exact ⟨j + 1, S + z, P, Q + 1, by omega, by omega, by omega, by omega, by omega, by go_num, by go_num, rfl, by go_num, by show _ = _; rw [szs_take hf'.out, HS.out, HZ2.out], PP.out, QQ.out, all_snoc HZ.out hf'.out HQ.out, X4.out⟩
                    case measure => simp [intOf]; omega
                  · have h7' : (kd == 7) = false := by simp [h7]
                    have h5' : (kd == 5) = false := by simp [h5]
                    have h6' : (kd == 6) = false := by simp [h6]
                    have PP := Lib.hid (show lks (fs.take (j + 1)) = P by rw [H7.out, HP.out]; simp [h7])
                    have QQ := Lib.hid (show grs (fs.take (j + 1)) = Q by rw [H5.out, HQQ.out]; simp [h5, h6])
                    go_wp2_with (go_at_call 45; refine (rfield_any (some ⟨b, o, none⟩) n cap ts (H.out.below HXX.out (Nat.le_refl _)) tn true false (.slice (some ⟨fb, fo, none⟩) fk fc) ⟨kd, ln, ty, lk, ky⟩).mono ?_; rintro e w3 ⟨rfl, hb3⟩; rw [HQ.out]; have X3 := Lib.hid (X2.out.trans (hb3.mono hws)); have hs3 := hb3.size; have HX3 := Lib.hid (HXX.out.trans (hb3.mono (by omega))); obtain ⟨p0, p1, p2, p3⟩ := four B0.out X3.out (by rw [SS.out]; omega); obtain ⟨q0, q1, q2, q3, q4⟩ := (hf.out.below HX3.out (Nat.le_refl _)).five hf'.out; simp only at q0 q1 q2 q3 q4; clear hb3)
                    go_wp2_with (go_at_call 29; refine (rsize_any ⟨kd, ln, ty, lk, ky⟩).mono ?_; rintro e w4 ⟨rfl, hb4⟩; rw [← HZ2.out]; have X4 := Lib.hid (X3.out.trans (hb4.mono (Nat.le_trans hws hs3))); have hs4 := hb4.size; have HX4 := Lib.hid (HX3.out.trans (hb4.mono (by omega))); obtain ⟨p0, p1, p2, p3⟩ := four B0.out X4.out (by rw [SS.out]; omega); obtain ⟨r0, r1, r2, r3, r4⟩ := (hf.out.below HX4.out (Nat.le_refl _)).five hf'.out; simp only at r0 r1 r2 r3 r4; clear hb4)
                    go_roundw
                    case rel => exact ⟨j + 1, S + z, P, Q, by omega, by omega, by omega, by omega, by omega, by go_num, by go_num, rfl, rfl, by show _ = _; rw [szs_take hf'.out, HS.out, HZ2.out], PP.out, QQ.out, all_snoc HZ.out hf'.out HQ.out, X4.out⟩
                    case measure => simp [intOf]; omega
                · obtain rfl : j = fk := by omega
                  have HT := Lib.hid (List.take_of_length_le (Nat.le_of_eq FL.out))
                  have HA := Lib.hid (all_upto HZ.out (Nat.le_of_eq FL.out))
                  have HS2 := Lib.hid (show szs fs = S by rw [← HS.out, HT.out])
                  have HLK := Lib.hid (show lkF fs = decide (P = 1 ∨ (P = 0 ∧ Q = 0)) by rw [← HP.out, ← HQQ.out, HT.out]; rfl)
                  have HLA := Lib.hid (laE_of (firstE_end HA.out) (Nat.not_lt.1 HK.out))
                  by_cases hP1 : 1 < P
                  · have HE := Lib.hid (HD.out.trans (ty_lock HK.out rfl HA.out (show lkF fs = false by rw [HLK.out]; simp; omega)))
                    go_wp2_with fail
                    go_ret
                    rw [HE.out]
                    exact ⟨rfl, HW.out⟩
                  · by_cases hQ0 : 0 < Q
                    · by_cases hP0 : P < 1
                      · have HE := Lib.hid (HD.out.trans (ty_lock HK.out rfl HA.out (show lkF fs = false by rw [HLK.out]; simp; omega)))
                        go_wp2_with fail
                        go_ret
                        rw [HE.out]
                        exact ⟨rfl, HW.out⟩
                      · have HE := Lib.hid (HD.out.trans (ty_end HK.out rfl HA.out (show lkF fs = true by rw [HLK.out]; simp; omega)))
                        by_cases hS : 256 < 8 + S
                        · have HE2 := Lib.hid (show laE fs = 11 by rw [HLA.out, HS2.out, if_pos hS])
                          go_wp2_with fail
                          go_ret
                          rw [HE.out, show laE (Ty.fields ⟨tn, true, false, fs⟩) = 11 from HE2.out]
                          exact ⟨rfl, HW.out⟩
                        · have HE2 := Lib.hid (show laE fs = 0 by rw [HLA.out, HS2.out, if_neg hS])
                          go_wp2_with fail
                          go_ret
                          rw [HE.out, show laE (Ty.fields ⟨tn, true, false, fs⟩) = 0 from HE2.out]
                          exact ⟨rfl, HW.out⟩
                    · have HE := Lib.hid (HD.out.trans (ty_end HK.out rfl HA.out (show lkF fs = true by rw [HLK.out]; simp; omega)))
                      by_cases hS : 256 < 8 + S
                      · have HE2 := Lib.hid (show laE fs = 11 by rw [HLA.out, HS2.out, if_pos hS])
                        go_wp2_with fail
                        go_ret
                        rw [HE.out, show laE (Ty.fields ⟨tn, true, false, fs⟩) = 11 from HE2.out]
                        exact ⟨rfl, HW.out⟩
                      · have HE2 := Lib.hid (show laE fs = 0 by rw [HLA.out, HS2.out, if_neg hS])
                        go_wp2_with fail
                        go_ret
                        rw [HE.out, show laE (Ty.fields ⟨tn, true, false, fs⟩) = 0 from HE2.out]
                        exact ⟨rfl, HW.out⟩
            · have HE := Lib.hid (HD.out.trans (ty_both HK.out rfl))
              go_wp2_with fail
              go_ret
              rw [HE.out]
              exact ⟨rfl, HW.out⟩
end
end Go.Proofs.Ytnkjlocjfljjlaa
