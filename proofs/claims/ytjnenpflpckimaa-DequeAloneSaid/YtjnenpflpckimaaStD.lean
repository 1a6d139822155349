/- The steps of a deque's machine, walked: those that put an end. -/
import Derived.Test.YtjnenpflpckimaaStB
namespace Go.Proofs.Ytjnenpflpckimaa
open Go.RowKit
set_option linter.unusedVariables false
variable {w0 : World} {M S D : Nat} {e : En} {nx : Value} {t b v r x : Int} {L : List Int} {c : Int}

set_option maxHeartbeats 1000000 in
/-- A word that was put is shown. -/
theorem showEntry_any (w : World) (h : Mst w0 w M S D e nx t b v r x L c) (h0 : 0 ≤ c) (h1 : c ≤ 1000000000) :
    Calls Try.prog 46 #[ptr M, ptr S] w fun a w' => a = .returned (.tuple #[]) ∧ Mst w0 w' M S D e .nilFunc t b v 1 0 (ptv L e.bot (IntKind.u64.wrap (b + 1))) (c + 1) := by
  have hmf : ∀ (fn : Fn) (first cap : Array Value) (w : World), (Instr.makeFunc fn first cap).run Try.prog w = .ok (.func fn first cap) w := fun _ _ _ _ => rfl
  obtain ⟨q0, q1, q2, q3, q5, q6⟩ := h.cs
  have q7 := h.c7
  obtain ⟨y, hy⟩ : ∃ y, y = (IntKind.u64.wrap (b + 1)) := ⟨_, rfl⟩
  rw [← hy]
  have hy' := hy.symm; clear hy
  have HD := Lib.hid h.drew; clear h
  go_enter Try.func46, Try.ntmps46
  go_wp2
  go_still_tail 11, (by kernel_rfl)
  change wpList _ _ _ _ _ w.drew
  go_wp2_with (first
    | (go_at_call 17; (with_reducible refine (put_any _ _ _ HD.out.st h0 h1).mono ?_); rintro r w1 ⟨rfl, hk⟩; have HK := Lib.hid (HD.out.left hk); clear hk; have c4 := HK.out.c4; have f4 := HK.out.f 4; have c7 := HK.out.c7)
    | (go_at_call 39; (with_reducible refine (finish_any 1 0 _ HK.out).mono ?_); rintro r w4 ⟨rfl, hz⟩)
    | fail)
  go_returns
  exact ⟨rfl, hz⟩
set_option maxHeartbeats 1000000 in
/-- The last one is hidden. -/
theorem hideLast_any (w : World) (h : Mst w0 w M S D e nx t b v r x L c) (h0 : 0 ≤ c) (h1 : c ≤ 1000000000) :
    Calls Try.prog 36 #[ptr M, ptr S] w fun a w' => a = .returned (.tuple #[]) ∧ Mst w0 w' M S D e (fnv 41 M) t b v r x (ptv L e.bot b) (c + 1) := by
  have hmf : ∀ (fn : Fn) (first cap : Array Value) (w : World), (Instr.makeFunc fn first cap).run Try.prog w = .ok (.func fn first cap) w := fun _ _ _ _ => rfl
  obtain ⟨q0, q1, q2, q3, q5, q6⟩ := h.cs
  have q7 := h.c7
  have HD := Lib.hid h.drew; clear h
  go_enter Try.func36, Try.ntmps36
  go_wp2
  go_still_tail 10, (by kernel_rfl)
  change wpList _ _ _ _ _ w.drew
  go_wp2_with (first
    | (go_at_call 17; (with_reducible refine (put_any _ _ _ HD.out.st h0 h1).mono ?_); rintro r w1 ⟨rfl, hk⟩; have HK := Lib.hid (HD.out.left hk); clear hk; have c4 := HK.out.c4; have f4 := HK.out.f 4; have c7 := HK.out.c7; have HE := Lib.hid (HK.out.p4 (fnv 41 M)))
    | fail)
  go_returns
  exact ⟨rfl, HE.out⟩
set_option maxHeartbeats 1000000 in
/-- None is left. -/
theorem leaveNone_any (w : World) (h : Mst w0 w M S D e nx t b v r x L c) (h0 : 0 ≤ c) (h1 : c ≤ 1000000000) :
    Calls Try.prog 47 #[ptr M, ptr S] w fun a w' => a = .returned (.tuple #[]) ∧ Mst w0 w' M S D e .nilFunc t b v 3 0 (ptv L e.bot (IntKind.u64.wrap (b + 1))) (c + 1) := by
  have hmf : ∀ (fn : Fn) (first cap : Array Value) (w : World), (Instr.makeFunc fn first cap).run Try.prog w = .ok (.func fn first cap) w := fun _ _ _ _ => rfl
  obtain ⟨q0, q1, q2, q3, q5, q6⟩ := h.cs
  have q7 := h.c7
  obtain ⟨y, hy⟩ : ∃ y, y = (IntKind.u64.wrap (b + 1)) := ⟨_, rfl⟩
  rw [← hy]
  have hy' := hy.symm; clear hy
  have HD := Lib.hid h.drew; clear h
  go_enter Try.func47, Try.ntmps47
  go_wp2
  go_still_tail 11, (by kernel_rfl)
  change wpList _ _ _ _ _ w.drew
  go_wp2_with (first
    | (go_at_call 17; (with_reducible refine (put_any _ _ _ HD.out.st h0 h1).mono ?_); rintro r w1 ⟨rfl, hk⟩; have HK := Lib.hid (HD.out.left hk); clear hk; have c4 := HK.out.c4; have f4 := HK.out.f 4; have c7 := HK.out.c7)
    | (go_at_call 39; (with_reducible refine (finish_any 3 0 _ HK.out).mono ?_); rintro r w4 ⟨rfl, hz⟩)
    | fail)
  go_returns
  exact ⟨rfl, hz⟩
set_option maxHeartbeats 1000000 in
/-- It is taken. -/
theorem leaveTaken_any (w : World) (h : Mst w0 w M S D e nx t b v r x L c) (h0 : 0 ≤ c) (h1 : c ≤ 1000000000) :
    Calls Try.prog 52 #[ptr M, ptr S] w fun a w' => a = .returned (.tuple #[]) ∧ Mst w0 w' M S D e .nilFunc t b v 1 v (ptv L e.bot (IntKind.u64.wrap (b + 1))) (c + 1) := by
  have hmf : ∀ (fn : Fn) (first cap : Array Value) (w : World), (Instr.makeFunc fn first cap).run Try.prog w = .ok (.func fn first cap) w := fun _ _ _ _ => rfl
  obtain ⟨q0, q1, q2, q3, q5, q6⟩ := h.cs
  have q7 := h.c7
  obtain ⟨y, hy⟩ : ∃ y, y = (IntKind.u64.wrap (b + 1)) := ⟨_, rfl⟩
  rw [← hy]
  have hy' := hy.symm; clear hy
  have HD := Lib.hid h.drew; clear h
  go_enter Try.func52, Try.ntmps52
  go_wp2
  go_still_tail 11, (by kernel_rfl)
  change wpList _ _ _ _ _ w.drew
  go_wp2_with (first
    | (go_at_call 17; (with_reducible refine (put_any _ _ _ HD.out.st h0 h1).mono ?_); rintro r w1 ⟨rfl, hk⟩; have HK := Lib.hid (HD.out.left hk); clear hk; have c4 := HK.out.c4; have f4 := HK.out.f 4; have c7 := HK.out.c7)
    | (go_at_call 39; (with_reducible refine (finish_any 1 v _ HK.out).mono ?_); rintro r w4 ⟨rfl, hz⟩)
    | fail)
  go_returns
  exact ⟨rfl, hz⟩
end Go.Proofs.Ytjnenpflpckimaa
