/- The steps of a deque's machine, walked: those that turn the top. -/
import Derived.Test.YtjnenpflpckimaaStB
namespace Go.Proofs.Ytjnenpflpckimaa
open Go.RowKit
set_option linter.unusedVariables false
set_option linter.unusedSimpArgs false
variable {w0 : World} {M S D : Nat} {e : En} {nx : Value} {t b v r x : Int} {L : List Int} {c : Int}

set_option maxHeartbeats 1000000 in
/-- The only one is had by whoever turns Top. -/
theorem contend_any (w : World) (h : Mst w0 w M S D e nx t b v r x L c) (h0 : 0 ≤ c) (h1 : c ≤ 1000000000) :
    Calls Try.prog 50 #[ptr M, ptr S] w fun a w' => a = .returned (.tuple #[]) ∧
      Mst w0 w' M S D e (if swB L e.top t = true then fnv 52 M else fnv 47 M) t b v (if swB L e.top t = true then r else r) (if swB L e.top t = true then x else x) (swv L e.top t (IntKind.u64.wrap (t + 1))) (c + 1) := by
  have hmf : ∀ (fn : Fn) (first cap : Array Value) (w : World), (Instr.makeFunc fn first cap).run Try.prog w = .ok (.func fn first cap) w := fun _ _ _ _ => rfl
  obtain ⟨q0, q1, q2, q3, q5, q6⟩ := h.cs
  have q7 := h.c7
  obtain ⟨y, hy⟩ : ∃ y, y = IntKind.u64.wrap (t + 1) := ⟨_, rfl⟩
  rw [← hy]
  have hy' := hy.symm; clear hy
  have HD := Lib.hid h.drew; clear h
  obtain ⟨B, hB⟩ : ∃ B, B = swB L e.top t := ⟨_, rfl⟩
  rw [← hB]
  have HB := Lib.hid hB; clear hB
  cases B
  · simp only [if_true, if_false, Bool.false_eq_true]
    go_enter Try.func50, Try.ntmps50
    go_wp2
    go_still_tail 15, (by kernel_rfl)
    change wpList _ _ _ _ _ w.drew
    go_wp2_with (first
      | (go_at_call 51; (with_reducible refine (swap_any _ _ _ _ HD.out.st h0 h1).mono ?_); rintro r w1 ⟨rfl, hk⟩; rw [← HB.out]; have HK := Lib.hid (HD.out.left hk); clear hk; have c4 := HK.out.c4; have f4 := HK.out.f 4; have c7 := HK.out.c7; have HE := Lib.hid (HK.out.p4 (fnv 47 M)))
      | fail)
    go_returns
    exact ⟨rfl, HE.out⟩
  · simp only [if_true, if_false, Bool.false_eq_true]
    go_enter Try.func50, Try.ntmps50
    go_wp2
    go_still_tail 15, (by kernel_rfl)
    change wpList _ _ _ _ _ w.drew
    go_wp2_with (first
      | (go_at_call 51; (with_reducible refine (swap_any _ _ _ _ HD.out.st h0 h1).mono ?_); rintro r w1 ⟨rfl, hk⟩; rw [← HB.out]; have HK := Lib.hid (HD.out.left hk); clear hk; have c4 := HK.out.c4; have f4 := HK.out.f 4; have c7 := HK.out.c7; have HE := Lib.hid (HK.out.p4 (fnv 52 M)))
      | fail)
    go_returns
    exact ⟨rfl, HE.out⟩
set_option maxHeartbeats 1000000 in
/-- The first one is had by whoever turns Top. -/
theorem takeFirst_any (w : World) (h : Mst w0 w M S D e nx t b v r x L c) (h0 : 0 ≤ c) (h1 : c ≤ 1000000000) :
    Calls Try.prog 49 #[ptr M, ptr S] w fun a w' => a = .returned (.tuple #[]) ∧
      Mst w0 w' M S D e (if swB L e.top t = true then .nilFunc else .nilFunc) t b v (if swB L e.top t = true then 1 else 4) (if swB L e.top t = true then v else 0) (swv L e.top t (IntKind.u64.wrap (t + 1))) (c + 1) := by
  have hmf : ∀ (fn : Fn) (first cap : Array Value) (w : World), (Instr.makeFunc fn first cap).run Try.prog w = .ok (.func fn first cap) w := fun _ _ _ _ => rfl
  obtain ⟨q0, q1, q2, q3, q5, q6⟩ := h.cs
  have q7 := h.c7
  obtain ⟨y, hy⟩ : ∃ y, y = IntKind.u64.wrap (t + 1) := ⟨_, rfl⟩
  rw [← hy]
  have hy' := hy.symm; clear hy
  have HD := Lib.hid h.drew; clear h
  obtain ⟨B, hB⟩ : ∃ B, B = swB L e.top t := ⟨_, rfl⟩
  rw [← hB]
  have HB := Lib.hid hB; clear hB
  cases B
  · simp only [if_true, if_false, Bool.false_eq_true]
    go_enter Try.func49, Try.ntmps49
    go_wp2
    go_still_tail 15, (by kernel_rfl)
    change wpList _ _ _ _ _ w.drew
    go_wp2_with (first
      | (go_at_call 51; (with_reducible refine (swap_any _ _ _ _ HD.out.st h0 h1).mono ?_); rintro r w1 ⟨rfl, hk⟩; rw [← HB.out]; have HK := Lib.hid (HD.out.left hk); clear hk; have c4 := HK.out.c4; have f4 := HK.out.f 4; have c7 := HK.out.c7)
      | (go_at_call 39; (with_reducible refine (finish_any 4 0 _ HK.out).mono ?_); rintro r w4 ⟨rfl, hz⟩)
      | fail)
    go_returns
    exact ⟨rfl, hz⟩
  · simp only [if_true, if_false, Bool.false_eq_true]
    go_enter Try.func49, Try.ntmps49
    go_wp2
    go_still_tail 15, (by kernel_rfl)
    change wpList _ _ _ _ _ w.drew
    go_wp2_with (first
      | (go_at_call 51; (with_reducible refine (swap_any _ _ _ _ HD.out.st h0 h1).mono ?_); rintro r w1 ⟨rfl, hk⟩; rw [← HB.out]; have HK := Lib.hid (HD.out.left hk); clear hk; have c4 := HK.out.c4; have f4 := HK.out.f 4; have c7 := HK.out.c7)
      | (go_at_call 39; (with_reducible refine (finish_any 1 v _ HK.out).mono ?_); rintro r w4 ⟨rfl, hz⟩)
      | fail)
    go_returns
    exact ⟨rfl, hz⟩
end Go.Proofs.Ytjnenpflpckimaa
