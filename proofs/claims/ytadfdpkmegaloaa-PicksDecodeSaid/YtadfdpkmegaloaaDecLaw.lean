/- The law of bytes and picks, walked. -/
import Derived.Test.YtadfdpkmegaloaaAwake
import Derived.Test.YtadfdpkmegaloaaAid
namespace Go.Proofs.Ytadfdpkmegaloaa
open Go.RowKit
set_option linter.unusedVariables false

theorem wf8 {a : Int} (h : (Lit.int .u8 a).wf = true) : 0 ≤ a ∧ a ≤ 255 := by
  simp [Lit.wf, IntKind.min, IntKind.max, IntKind.bits, IntKind.signed] at h
  omega
theorem byt_of {zs : List Int} (h : ∀ x ∈ zs, (Lit.int .u8 x).wf = true) : Byt zs := by
  intro i
  by_cases hi : i < zs.length
  · have := wf8 (h zs[i] (List.getElem_mem hi))
    simpa [List.getD, List.getElem?_eq_getElem hi] using this
  · simp [List.getD, List.getElem?_eq_none (Nat.le_of_not_lt hi)]

theorem refdecode_at (s : ByteArray) (zs : List Int) (all : Int) (m : Nat) (r : List Pk) (w : World) (hz : Byt zs) (hs : strOfNums zs = s) (hb : zs.length ≤ 1000) (hr : decL zs all = r) (hm : m = r.length) :
    Calls Try.prog 12 #[.string s, .int .i64 all] w (SomeR r m w) := by
  subst hs
  exact somep_at (refdecode_any (strOfNums zs) all w (by rw [strOfNums_size]; exact hb)) (by rw [bytesOf_nums zs hz]; exact hr) hm
theorem model_at (A : Option Addr) (cap n : Nat) (l : List Pk) (w : World) (hn : n = l.length) (h : ReadsP w A l) (hb : n ≤ 1000) :
    Calls Try.prog 15 #[.slice A n cap] w (SomeR l n w) := somep_at (model_any A cap n l w hn h hb) rfl hn
theorem refencode_at (A : Option Addr) (cap n : Nat) (l : List Pk) (R : ByteArray) (w : World) (hn : n = l.length) (h : ReadsP w A l) (hb : n ≤ 1000) (hR : strOfNums (encL l) = R) :
    Calls Try.prog 14 #[.slice A n cap] w fun e w' => e = .returned (.string R) ∧ Below w.heap.size w w' := by
  subst hR
  exact refencode_any A cap n l w hn h hb

set_option maxHeartbeats 4000000 in
set_option maxRecDepth 100000 in
theorem walkDecode (a0 : Option Addr) (len0 cap0 : Nat) (z0 : List Int) (a1 : Int) (a2 : Option Addr) (len2 cap2 : Nat) (l2 : List Pk) (w : World) (w0 : IsRow .u8 w a0 len0 cap0 z0) (w1 : (Lit.int .i64 a1).wf = true) (w2 : IsPks w a2 len2 cap2 l2) :
    Calls Try.prog 3 #[.slice a0 len0 cap0, .int .i64 a1, .slice a2 len2 cap2] w fun e w' => e = .returned (.bool true) ∧ Below w.heap.size w w' := by
  obtain ⟨hR, hlen, h1, h2, h3, hwf⟩ := reads_row w0
  obtain ⟨hP, hpl, p1, p2, p3⟩ := w2
  have hz := byt_of hwf
  unfold maxLen at h2 p2
  clear w0 w1 hwf
  generalize z0.take len0 = zs at hR hlen hz
  have HL := Lib.hid hlen.symm
  have HPL := Lib.hid hpl.symm
  have hb : Below w.heap.size w w := Below.refl _ _
  by_cases c1 : 400 < len0
  · clear hR hP hz hlen hpl
    go_enter Try.func3, Try.ntmps3
    go_wp2_with (go_at_call 9; (with_reducible refine (awake_true _).mono ?_); rintro e w1 ⟨rfl, hb1⟩)
    go_ret
    exact ⟨rfl, hb1⟩
  by_cases c2 : 200 < len2
  · clear hR hP hz hlen hpl
    go_enter Try.func3, Try.ntmps3
    go_wp2_with (go_at_call 9; (with_reducible refine (awake_true _).mono ?_); rintro e w1 ⟨rfl, hb1⟩)
    go_ret
    exact ⟨rfl, hb1⟩
  obtain ⟨r, hr⟩ : ∃ r, decL zs a1 = r := ⟨_, rfl⟩
  obtain ⟨m, hm⟩ : ∃ m, m = r.length := ⟨_, rfl⟩
  obtain ⟨en, hen⟩ : ∃ en, encL l2 = en := ⟨_, rfl⟩
  obtain ⟨me, hme⟩ : ∃ me, me = en.length := ⟨_, rfl⟩
  obtain ⟨S0, hS0⟩ : ∃ S, strOfNums zs = S := ⟨_, rfl⟩
  obtain ⟨S1, hS1⟩ : ∃ S, strOfNums en = S := ⟨_, rfl⟩
  have hmb : m ≤ 1000 := by rw [hm, ← hr, decL_len]; omega
  have hzl : zs.length ≤ 1000 := by omega
  have HZ := Lib.hid hz
  have HRR := Lib.hid hr
  have HM := Lib.hid hm
  have HE := Lib.hid hen
  have HME := Lib.hid hme
  have HS0 := Lib.hid hS0
  have HS1 := Lib.hid hS1
  have HS2 : Hid (strOfNums (encL l2) = S1) := Lib.hid (by rw [hen, hS1])
  have HZL := Lib.hid hzl
  have hn1 : len0 ≤ 1000 := by omega
  have hn2 : len2 ≤ 1000 := by omega
  have hR0 := hR
  have hP0 := hP
  have cv : ∀ (w' : World), Below w.heap.size w w' → (convert 22 9 (.slice a0 len0 cap0)).run Try.prog w' = .ok (.string S0) w' := fun w' hb => by
    rw [← HS0.out]; exact conv_any a0 cap0 len0 zs w' HL.out (hR0.below hb)
  have CV := Lib.hid cv
  have HRD := Lib.hid hR0
  have HPD := Lib.hid hP0
  clear hR hP hz hlen hpl hr hm hen hme hS0 hS1 hR0 hP0 cv hzl
  go_enter Try.func3, Try.ntmps3
  go_wp2_with (go_at_call 9; (with_reducible refine (awake_true _).mono ?_); rintro e w1 ⟨rfl, hb1⟩; have hb := below_step hb hb.size hb1; clear hb1)
  have HB := hb.drew
  have hcv0 := CV.out _ HB
  go_region_with
    (first
      | (go_at_call 11; (with_reducible refine (decode_at _ _ _ _ zs _ r _ HL.out (HRD.out.below HB) HZ.out hn1 HRR.out HM.out).mono ?_); rintro e w2 ⟨A1, k1, rfl, hA1, _, hb2⟩; have HB := below_step HB HB.size hb2; clear hb2; have hcv0 := CV.out _ HB)
      | (go_at_call 12; (with_reducible refine (refdecode_at _ zs _ _ r _ HZ.out HS0.out HZL.out HRR.out HM.out).mono ?_); rintro e w3 ⟨A2, k2, rfl, hA2, _, hb2⟩; have hA1 := hA1.below hb2; have HB := below_step HB HB.size hb2; clear hb2; have hcv0 := CV.out _ HB)
      | (go_at_call 10; (with_reducible refine (same_yes _ _ _ _ _ _ r _ HM.out HM.out hA1 hA2 (by omega) (by omega)).mono ?_); rintro e w4 ⟨rfl, hb2⟩; have HB := below_step HB HB.size hb2; clear hb2; have hcv0 := CV.out _ HB)
      | (go_at_call 13; (with_reducible refine (encode_at _ _ _ _ l2 en _ HPL.out (HPD.out.below HB) hn2 HE.out HME.out).mono ?_); rintro e w5 ⟨A5, k5, rfl, hA5, _, hb2⟩; have HB := below_step HB HB.size hb2; clear hb2; have hcv0 := CV.out _ HB; have hcv := conv_any A5 k5 me _ w5 HME.out hA5; rw [HS1.out] at hcv)
      | (go_at_call 15; (with_reducible refine (model_at _ _ _ l2 _ HPL.out (HPD.out.below HB) hn2).mono ?_); rintro e w6 ⟨A6, k6, rfl, hA6, _, hb2⟩; have HB := below_step HB HB.size hb2; have hA5 := hA5.below hb2; clear hb2; have hcv0 := CV.out _ HB; have hcv := conv_any A5 k5 me _ w6 HME.out hA5; rw [HS1.out] at hcv)
      | (go_at_call 14; (with_reducible refine (refencode_at _ _ _ l2 S1 _ HPL.out hA6 hn2 HS2.out).mono ?_); rintro e w7 ⟨rfl, hb2⟩; have HB := below_step HB HB.size hb2; have hA5 := hA5.below hb2; clear hb2; have hcv0 := CV.out _ HB; have hcv := conv_any A5 k5 me _ w7 HME.out hA5; rw [HS1.out] at hcv)
      | fail)
  all_goals (go_wp2_with (fail))
  all_goals go_ret
  all_goals exact ⟨rfl, HB⟩
end Go.Proofs.Ytadfdpkmegaloaa
