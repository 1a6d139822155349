/- Numbers within bounds, the piece that begins at a slot, how many pieces there are, and the document's own: walked. -/
import Derived.Test.YtemjonahinohmaaBase
namespace Go.Proofs.Ytemjonahinohmaa
open Go.RowKit
set_option linter.unusedVariables false

set_option maxHeartbeats 400000 in
theorem bound_any (n lo hi r : Int) (h : lo ≤ hi) (hr : bnd n lo hi = r) (w : World) : Calls Try.prog 16 #[.int .i64 n, .int .i64 lo, .int .i64 hi] w fun e w' => e = .returned (.int .i64 r) ∧ w = w' := by
  have HR := Lib.hid ((bnd_is (n := n) h).trans hr)
  clear hr
  go_enter Try.func16, Try.ntmps16
  go_wp2
  go_ret
  exact ⟨ret_int HR.out, rfl⟩

set_option maxHeartbeats 400000 in
theorem refBound_any (n lo hi r : Int) (h : lo ≤ hi) (hr : bnd n lo hi = r) (w : World) : Calls Try.prog 17 #[.int .i64 n, .int .i64 lo, .int .i64 hi] w fun e w' => e = .returned (.int .i64 r) ∧ w = w' := by
  unfold bnd at hr
  subst hr
  by_cases h1 : n < lo
  · rw [if_pos h1]
    have h2 : ¬ hi < lo := by omega
    go_enter Try.func17, Try.ntmps17
    go_wp2
    go_ret
    exact ⟨rfl, rfl⟩
  · rw [if_neg h1]
    by_cases h2 : hi < n
    · rw [if_pos h2]
      go_enter Try.func17, Try.ntmps17
      go_wp2
      go_ret
      exact ⟨rfl, rfl⟩
    · rw [if_neg h2]
      go_enter Try.func17, Try.ntmps17
      go_wp2
      go_ret
      exact ⟨rfl, rfl⟩

set_option maxHeartbeats 400000 in
theorem counted_any (s c S C : Int) (hS : bnd s 0 1000 = S) (hC : bnd c 1 1000 = C) (w : World) :
    Calls Try.prog 15 #[.int .i64 s, .int .i64 c] w fun e w' => e = .returned (.tuple #[.int .i64 S, .int .i64 C]) ∧ w = w' := by
  have HS := Lib.hid hS
  have HC := Lib.hid hC
  clear hS hC
  go_enter Try.func15, Try.ntmps15
  go_wp2_with (first
    | (go_at_call 16; (with_reducible refine (bound_any _ 0 1000 _ (by omega) HS.out _).mono ?_); rintro r w1 ⟨rfl, rfl⟩)
    | (go_at_call 16; (with_reducible refine (bound_any _ 1 1000 _ (by omega) HC.out _).mono ?_); rintro r w1 ⟨rfl, rfl⟩)
    | fail)
  go_returns
  exact ⟨rfl, rfl⟩

/-- The numbers of a piece. -/
structure Nx (s f c S C F T : Int) : Prop where
  s : bnd s 0 1000 = S
  c : bnd c 1 1000 = C
  f : bnd f 0 S = F
  t : imin (F + C) S = T
theorem Nx.bd {s f c S C F T : Int} (h : Nx s f c S C F T) : 0 ≤ S ∧ S ≤ 1000 ∧ 1 ≤ C ∧ C ≤ 1000 ∧ 0 ≤ F ∧ F ≤ S ∧ F ≤ T ∧ T ≤ S := by
  obtain ⟨rfl, rfl, rfl, rfl⟩ := h
  have h1 := bnd_lo (n := s) (show (0 : Int) ≤ 1000 by omega)
  have h2 := bnd_hi (n := s) (show (0 : Int) ≤ 1000 by omega)
  have h3 := bnd_lo (n := c) (show (1 : Int) ≤ 1000 by omega)
  have h4 := bnd_hi (n := c) (show (1 : Int) ≤ 1000 by omega)
  have h5 := bnd_lo (n := f) h1
  have h6 := bnd_hi (n := f) h1
  refine ⟨h1, h2, h3, h4, h5, h6, ?_, ?_⟩
  · unfold imin; split <;> omega
  · unfold imin; split <;> omega

set_option maxHeartbeats 1000000 in
theorem next_any (s f c S C F T : Int) (b : Bool) (h : Nx s f c S C F T) (hb : decide (T < S) = b) (w : World) :
    Calls Try.prog 9 #[.int .i64 s, .int .i64 f, .int .i64 c] w fun e w' => e = .returned (.tuple #[.agg #[.int .i64 F, .int .i64 T], .bool b]) ∧ Below w.heap.size w w' := by
  obtain ⟨b0, b1, b2, b3, b4, b5, b6, b7⟩ := h.bd
  have HN := Lib.hid h
  have HT := h.t
  have hb' : decide (S > T) = b := hb
  clear h hb
  go_enter Try.func9, Try.ntmps9
  go_wp2_with (first
    | (go_at_call 15; (with_reducible refine (counted_any _ _ _ _ HN.out.s HN.out.c _).mono ?_); rintro r w1 ⟨rfl, rfl⟩)
    | (go_at_call 16; (with_reducible refine (bound_any _ 0 _ _ b0 HN.out.f _).mono ?_); rintro r w1 ⟨rfl, rfl⟩)
    | fail)
  exact bodyPost_ret (v := .tuple #[.agg #[.int .i64 F, .int .i64 T], .bool b]) (by simp [results, Try.results9, go_sem]) rfl ⟨rfl, by go_grown⟩

set_option maxHeartbeats 1000000 in
theorem refTo_any (s f c S C F T : Int) (h : Nx s f c S C F T) (w : World) :
    Calls Try.prog 10 #[.int .i64 s, .int .i64 f, .int .i64 c] w fun e w' => e = .returned (.int .i64 T) ∧ w = w' := by
  obtain ⟨b0, b1, b2, b3, b4, b5, b6, b7⟩ := h.bd
  have HN := Lib.hid h
  have hT : bnd (F + C) 0 S = T := by
    have := h.t
    unfold imin at this
    unfold bnd
    (repeat' split) <;> split at this <;> omega
  have HT := Lib.hid hT
  clear h hT
  go_enter Try.func10, Try.ntmps10
  go_wp2_with (first
    | (go_at_call 17; (with_reducible refine (refBound_any _ 0 1000 _ (by omega) HN.out.s _).mono ?_); rintro r w1 ⟨rfl, rfl⟩)
    | (go_at_call 17; (with_reducible refine (refBound_any _ 1 1000 _ (by omega) HN.out.c _).mono ?_); rintro r w1 ⟨rfl, rfl⟩)
    | (go_at_call 17; (with_reducible refine (refBound_any _ 0 _ _ b0 HN.out.f _).mono ?_); rintro r w1 ⟨rfl, rfl⟩)
    | (go_at_call 17; (with_reducible refine (refBound_any _ 0 _ _ b0 HT.out _).mono ?_); rintro r w1 ⟨rfl, rfl⟩)
    | fail)
  go_ret
  exact ⟨rfl, rfl⟩

/-- How many pieces there are of s slots by c, as they are told. -/
def cntW (s c : Int) : Int := cntR (bnd s 0 1000) (bnd c 1 1000)
theorem cntW_bd (s c : Int) : 1 ≤ cntW s c ∧ cntW s c ≤ 1001 := by
  have h1 := bnd_lo (n := s) (show (0 : Int) ≤ 1000 by omega)
  have h2 := bnd_hi (n := s) (show (0 : Int) ≤ 1000 by omega)
  have h3 := bnd_lo (n := c) (show (1 : Int) ≤ 1000 by omega)
  have := cnt_pos h1 h3
  have := cnt_le h1 h3
  unfold cntW
  omega
theorem quo_bd {S C : Int} (b0 : 0 ≤ S) (b1 : S ≤ 1000) (b2 : 1 ≤ C) (b3 : C ≤ 1000) : 0 ≤ (S + C - 1).tdiv C ∧ (S + C - 1).tdiv C ≤ 2000 := by
  rw [Int.tdiv_eq_ediv_of_nonneg (by omega)]
  refine ⟨Int.ediv_nonneg (by omega) (by omega), ?_⟩
  have := Int.ediv_le_self C (show 0 ≤ S + C - 1 by omega)
  omega

set_option maxHeartbeats 1000000 in
theorem count_any (s c r : Int) (hr : cntW s c = r) (w : World) :
    Calls Try.prog 12 #[.int .i64 s, .int .i64 c] w fun e w' => e = .returned (.int .i64 r) ∧ w = w' := by
  obtain ⟨S, hS⟩ : ∃ S, bnd s 0 1000 = S := ⟨_, rfl⟩
  obtain ⟨C, hC⟩ : ∃ C, bnd c 1 1000 = C := ⟨_, rfl⟩
  have b0 : 0 ≤ S := by rw [← hS]; exact bnd_lo (by omega)
  have b1 : S ≤ 1000 := by rw [← hS]; exact bnd_hi (by omega)
  have b2 : 1 ≤ C := by rw [← hC]; exact bnd_lo (by omega)
  have b3 : C ≤ 1000 := by rw [← hC]; exact bnd_hi (by omega)
  have hq := quo_bd b0 b1 b2 b3
  have hd := cnt_doc b0 b2
  obtain ⟨q, hqe⟩ : ∃ q, (S + C - 1).tdiv C = q := ⟨_, rfl⟩
  rw [hqe] at hq hd
  obtain ⟨q0, q1⟩ := hq
  have hm : imax q 1 = r := by
    rw [← hr]; unfold cntW; rw [hS, hC, ← hd]; unfold imax
    (repeat' split) <;> omega
  have HM := Lib.hid hm
  have HS := Lib.hid hS
  have HC := Lib.hid hC
  have c0 : (C == 0) = false := by rw [beq_eq_false_iff_ne]; omega
  clear hr hS hC hd hm
  go_enter Try.func12, Try.ntmps12
  go_wp2_with (first
    | (go_at_call 15; (with_reducible refine (counted_any _ _ _ _ HS.out HC.out _).mono ?_); rintro r w1 ⟨rfl, rfl⟩)
    | fail)
  go_ret
  exact ⟨ret_int HM.out, rfl⟩

set_option maxHeartbeats 1000000 in
theorem refCount_any (s c r : Int) (hr : cntW s c = r) (w : World) :
    Calls Try.prog 11 #[.int .i64 s, .int .i64 c] w fun e w' => e = .returned (.int .i64 r) ∧ w = w' := by
  obtain ⟨S, hS⟩ : ∃ S, bnd s 0 1000 = S := ⟨_, rfl⟩
  obtain ⟨C, hC⟩ : ∃ C, bnd c 1 1000 = C := ⟨_, rfl⟩
  have b0 : 0 ≤ S := by rw [← hS]; exact bnd_lo (by omega)
  have b1 : S ≤ 1000 := by rw [← hS]; exact bnd_hi (by omega)
  have b2 : 1 ≤ C := by rw [← hC]; exact bnd_lo (by omega)
  have b3 : C ≤ 1000 := by rw [← hC]; exact bnd_hi (by omega)
  have hq := quo_bd b0 b1 b2 b3
  have hd := cnt_doc b0 b2
  obtain ⟨q, hqe⟩ : ∃ q, (S + C - 1).tdiv C = q := ⟨_, rfl⟩
  rw [hqe] at hq hd
  obtain ⟨q0, q1⟩ := hq
  have HS := Lib.hid hS
  have HC := Lib.hid hC
  have c0 : (C == 0) = false := by rw [beq_eq_false_iff_ne]; omega
  have hr2 : (if q = 0 then 1 else q) = r := by rw [hd, ← hr]; unfold cntW; rw [hS, hC]
  clear hr hS hC hd
  by_cases hz : q = 0
  · rw [if_pos hz] at hr2
    have hz2 : (q == 0) = true := by simpa using hz
    have HR := Lib.hid hr2
    clear hr2 hz
    go_enter Try.func11, Try.ntmps11
    go_wp2_with (first
      | (go_at_call 17; (with_reducible refine (refBound_any _ 0 1000 _ (by omega) HS.out _).mono ?_); rintro r w1 ⟨rfl, rfl⟩)
      | (go_at_call 17; (with_reducible refine (refBound_any _ 1 1000 _ (by omega) HC.out _).mono ?_); rintro r w1 ⟨rfl, rfl⟩)
      | fail)
    go_ret
    exact ⟨ret_int HR.out, rfl⟩
  · rw [if_neg hz] at hr2
    have hz2 : (q == 0) = false := by simpa using hz
    have HR := Lib.hid hr2
    clear hr2 hz
    go_enter Try.func11, Try.ntmps11
    go_wp2_with (first
      | (go_at_call 17; (with_reducible refine (refBound_any _ 0 1000 _ (by omega) HS.out _).mono ?_); rintro r w1 ⟨rfl, rfl⟩)
      | (go_at_call 17; (with_reducible refine (refBound_any _ 1 1000 _ (by omega) HC.out _).mono ?_); rintro r w1 ⟨rfl, rfl⟩)
      | fail)
    go_ret
    exact ⟨ret_int HR.out, rfl⟩

set_option maxHeartbeats 400000 in
theorem none_any (w : World) : Calls Try.prog 19 #[] w fun e w' => e = .returned (.agg #[.int .i64 (-1), .int .i64 (-1)]) ∧ Below w.heap.size w w' := by
  go_enter Try.func19, Try.ntmps19
  go_wp2
  exact bodyPost_ret (v := .agg #[.int .i64 (-1), .int .i64 (-1)]) (by simp [results, Try.results19, go_sem]) rfl ⟨rfl, by go_grown⟩
end Go.Proofs.Ytemjonahinohmaa
