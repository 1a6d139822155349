/- A marker that looks for a task: its block, and its small functions; walked. -/
import Derived.Test.YtnfbjebhpljikaaGreatAdM
import Derived.Test.YtnfbjebhpljikaaGreatJ18
import Derived.Test.YtnfbjebhpljikaaGreatSePure
namespace Go.Proofs.YtnfbjebhpljikaaGreat
open Go.RowKit
set_option linter.unusedVariables false
set_option linter.unusedSimpArgs false
set_option maxRecDepth 100000
open Lay (plcc plc shOf packN nodesN OkC Cfg Norm firstV Rep lenL things)

/-- A machine's block. -/
def Kb (w : World) (X N : Nat) (i draw b0 b1 b2 : Int) (nx dv pv : Value) (t : Int) (fd : Bool) : Prop :=
  w.heap[X]? = some (.cells #[Lay.mapP N, .int .i64 i, .int .i64 draw, .int .i64 b0, .int .i64 b1, .int .i64 b2, nx, dv, pv, .int .u64 t, .bool fd] 78 (0, 0))
section
variable {w w' : World} {X N : Nat} {i draw b0 b1 b2 t : Int} {nx dv pv : Value} {fd : Bool}
theorem Kb.lt (h : Kb w X N i draw b0 b1 b2 nx dv pv t fd) : X < w.heap.size := (Array.getElem?_eq_some_iff.1 h).1
theorem Kb.f (h : Kb w X N i draw b0 b1 b2 nx dv pv t fd) (j : Nat) : w.frozen? ⟨X, j, none⟩ = false := frozen_of_row w X j _ _ h
theorem Kb.cc (h : Kb w X N i draw b0 b1 b2 nx dv pv t fd) : w.cell? ⟨X, 0, none⟩ = some (Lay.mapP N) ∧ w.cell? ⟨X, 1, none⟩ = some (.int .i64 i) ∧ w.cell? ⟨X, 2, none⟩ = some (.int .i64 draw) ∧ w.cell? ⟨X, 3, none⟩ = some (.int .i64 b0) ∧ w.cell? ⟨X, 4, none⟩ = some (.int .i64 b1) ∧ w.cell? ⟨X, 5, none⟩ = some (.int .i64 b2) := by
  have := h; unfold Kb at this; simp [World.cell?, this]
theorem Kb.c6 (h : Kb w X N i draw b0 b1 b2 nx dv pv t fd) : w.cell? ⟨X, 6, none⟩ = some nx := by have := h; unfold Kb at this; simp [World.cell?, this]
theorem Kb.c7 (h : Kb w X N i draw b0 b1 b2 nx dv pv t fd) : w.cell? ⟨X, 7, none⟩ = some dv := by have := h; unfold Kb at this; simp [World.cell?, this]
theorem Kb.c8 (h : Kb w X N i draw b0 b1 b2 nx dv pv t fd) : w.cell? ⟨X, 8, none⟩ = some pv := by have := h; unfold Kb at this; simp [World.cell?, this]
theorem Kb.c9 (h : Kb w X N i draw b0 b1 b2 nx dv pv t fd) : w.cell? ⟨X, 9, none⟩ = some (.int .u64 t) := by have := h; unfold Kb at this; simp [World.cell?, this]
theorem Kb.c10 (h : Kb w X N i draw b0 b1 b2 nx dv pv t fd) : w.cell? ⟨X, 10, none⟩ = some (.bool fd) := by have := h; unfold Kb at this; simp [World.cell?, this]
theorem Kb.same (h : Kb w X N i draw b0 b1 b2 nx dv pv t fd) (k : w'.heap[X]? = w.heap[X]?) : Kb w' X N i draw b0 b1 b2 nx dv pv t fd := k.trans h
theorem Kb.step (h : Kb w X N i draw b0 b1 b2 nx dv pv t fd) (hb : Below w.heap.size w w') : Kb w' X N i draw b0 b1 b2 nx dv pv t fd := (hb.block X h.lt).trans h
theorem Kb.put (h : Kb w X N i draw b0 b1 b2 nx dv pv t fd) (j : Nat) (y : Value) {i' draw' b0' b1' b2' t' : Int} {nx' dv' pv' : Value} {f' : Bool}
    (hh : (#[Lay.mapP N, .int .i64 i, .int .i64 draw, .int .i64 b0, .int .i64 b1, .int .i64 b2, nx, dv, pv, .int .u64 t, .bool fd] : Array Value).setIfInBounds j y = #[Lay.mapP N, .int .i64 i', .int .i64 draw', .int .i64 b0', .int .i64 b1', .int .i64 b2', nx', dv', pv', .int .u64 t', .bool f']) :
    Kb (w.setCell ⟨X, j, none⟩ y) X N i' draw' b0' b1' b2' nx' dv' pv' t' f' := by
  unfold Kb
  rw [heap_setCell_same w X j _ 78 _ h, hh]
theorem Kb.p3 (h : Kb w X N i draw b0 b1 b2 nx dv pv t fd) (y : Int) : Kb (w.setCell ⟨X, 3, none⟩ (.int .i64 y)) X N i draw y b1 b2 nx dv pv t fd := h.put 3 _ rfl
theorem Kb.p4 (h : Kb w X N i draw b0 b1 b2 nx dv pv t fd) (y : Int) : Kb (w.setCell ⟨X, 4, none⟩ (.int .i64 y)) X N i draw b0 y b2 nx dv pv t fd := h.put 4 _ rfl
theorem Kb.p5 (h : Kb w X N i draw b0 b1 b2 nx dv pv t fd) (y : Int) : Kb (w.setCell ⟨X, 5, none⟩ (.int .i64 y)) X N i draw b0 b1 y nx dv pv t fd := h.put 5 _ rfl
theorem Kb.pb (h : Kb w X N i draw b0 b1 b2 nx dv pv t fd) (x y z : Int) : Kb (((w.setCell ⟨X, 3, none⟩ (.int .i64 x)).setCell ⟨X, 4, none⟩ (.int .i64 y)).setCell ⟨X, 5, none⟩ (.int .i64 z)) X N i draw x y z nx dv pv t fd := ((h.p3 x).p4 y).p5 z
theorem Kb.p6 (h : Kb w X N i draw b0 b1 b2 nx dv pv t fd) (y : Value) : Kb (w.setCell ⟨X, 6, none⟩ y) X N i draw b0 b1 b2 y dv pv t fd := h.put 6 _ rfl
theorem Kb.p7 (h : Kb w X N i draw b0 b1 b2 nx dv pv t fd) (y : Value) : Kb (w.setCell ⟨X, 7, none⟩ y) X N i draw b0 b1 b2 nx y pv t fd := h.put 7 _ rfl
theorem Kb.p8 (h : Kb w X N i draw b0 b1 b2 nx dv pv t fd) (y : Value) : Kb (w.setCell ⟨X, 8, none⟩ y) X N i draw b0 b1 b2 nx dv y t fd := h.put 8 _ rfl
theorem Kb.p9 (h : Kb w X N i draw b0 b1 b2 nx dv pv t fd) (y : Int) : Kb (w.setCell ⟨X, 9, none⟩ (.int .u64 y)) X N i draw b0 b1 b2 nx dv pv y fd := h.put 9 _ rfl
theorem Kb.p10 (h : Kb w X N i draw b0 b1 b2 nx dv pv t fd) (y : Bool) : Kb (w.setCell ⟨X, 10, none⟩ (.bool y)) X N i draw b0 b1 b2 nx dv pv t y := h.put 10 _ rfl
end
abbrev bgV (a b c : Int) : Value := .agg #[.int .i64 a, .int .i64 b, .int .i64 c]

/-! Numbers. -/
theorem tmod_rest {n by' : Int} (h : 2 ≤ by') : (if Int.tmod n by' < 0 then Int.tmod n by' + by' else Int.tmod n by') = n % by' := by
  have h1 := Int.tmod_lt_of_pos n (show 0 < by' by omega)
  have h2 := Int.lt_tmod_of_pos n (show 0 < by' by omega)
  have h3 := Int.emod_nonneg n (show by' ≠ 0 by omega)
  have h4 := Int.emod_lt_of_pos n (show 0 < by' by omega)
  have d1 : by' ∣ n - n.tmod by' := Int.dvd_self_sub_tmod
  obtain ⟨k, hk⟩ := d1
  have d2 : by' ∣ n - n % by' := Int.dvd_self_sub_emod
  obtain ⟨j, hj⟩ := d2
  have e : n.tmod by' - n % by' = by' * (j - k) := by rw [Int.mul_sub, ← hk, ← hj]; omega
  split
  · have : j - k = -1 := by
      rcases Int.lt_trichotomy (j - k) (-1) with x | x | x
      · have := Int.mul_le_mul_of_nonneg_left (show j - k ≤ -2 by omega) (show 0 ≤ by' by omega); omega
      · exact x
      · have := Int.mul_le_mul_of_nonneg_left (show 0 ≤ j - k by omega) (show 0 ≤ by' by omega); omega
    rw [this] at e; omega
  · have : j - k = 0 := by
      rcases Int.lt_trichotomy (j - k) 0 with x | x | x
      · have := Int.mul_le_mul_of_nonneg_left (show j - k ≤ -1 by omega) (show 0 ≤ by' by omega); omega
      · exact x
      · have := Int.mul_le_mul_of_nonneg_left (show 1 ≤ j - k by omega) (show 0 ≤ by' by omega); omega
    rw [this] at e; omega
set_option maxHeartbeats 1000000 in
theorem rest_any (n b : Int) (w : World) (hn : -9223372036854775808 ≤ n ∧ n ≤ 9223372036854775807) (hb : 2 ≤ b ∧ b ≤ 9223372036854775807) :
    Calls Tryz.prog 21 #[.int .i64 n, .int .i64 b] w fun e w' => e = .returned (.int .i64 (n % b)) ∧ w = w' := by
  have e := tmod_rest (n := n) hb.1
  have h1 := Int.tmod_lt_of_pos n (show 0 < b by omega)
  have h2 := Int.lt_tmod_of_pos n (show 0 < b by omega)
  have hb0 : b ≠ 0 := by omega
  have hb1 : b ≠ -1 := by omega
  have ew : IntKind.i64.wrap (Int.tmod n b) = Int.tmod n b := IntWalk.i64_in _ (by omega)
  by_cases h : Int.tmod n b < 0
  · rw [if_pos h] at e
    have ew2 : IntKind.i64.wrap (Int.tmod n b + b) = n % b := by rw [e]; exact IntWalk.i64_in _ (by have := Int.emod_nonneg n hb0; have := Int.emod_lt_of_pos n (show 0 < b by omega); omega)
    clear hn hb e h1 h2
    go_enter Tryz.func21, Tryz.ntmps21
    go_wp2
    go_ret
    exact ⟨rfl, rfl⟩
  · rw [if_neg h] at e
    rw [← e]
    clear hn hb e h1 h2
    go_enter Tryz.func21, Tryz.ntmps21
    go_wp2
    go_ret
    exact ⟨rfl, rfl⟩
theorem emod_suc {d all : Int} (h : 2 ≤ all) : (d % all + 1) % all = kback all (d % all) := by
  have h3 := Int.emod_nonneg d (show all ≠ 0 by omega)
  have h4 := Int.emod_lt_of_pos d (show 0 < all by omega)
  unfold kback
  split
  · rename_i e; rw [e]; simp
  · exact Int.emod_eq_of_lt (by omega) (by omega)
set_option maxHeartbeats 1000000 in
theorem victim_any (all i draw : Int) (w : World) (ha : -9223372036854775808 ≤ all ∧ all ≤ 9223372036854775807) (hd : -9223372036854775808 ≤ draw ∧ draw ≤ 9223372036854775807) :
    Calls Tryz.prog 6 #[.int .i64 all, .int .i64 i, .int .i64 draw] w fun e w' => e = .returned (.int .i64 (kvic all i draw)) ∧ w = w' := by
  have HA := Lib.hid ha; have HD := Lib.hid hd
  by_cases h2 : all < 2
  · rw [show kvic all i draw = -1 by unfold kvic; rw [if_pos h2]]
    clear ha hd
    go_enter Tryz.func6, Tryz.ntmps6
    go_wp2
    go_ret
    exact ⟨rfl, rfl⟩
  · have h3 := Int.emod_nonneg draw (show all ≠ 0 by omega)
    have h4 := Int.emod_lt_of_pos draw (show 0 < all by omega)
    have hs := emod_suc (d := draw) (all := all) (by omega)
    obtain ⟨v, hv⟩ : ∃ v, v = draw % all := ⟨_, rfl⟩
    rw [← hv] at h3 h4 hs
    have ew : IntKind.i64.wrap (v + 1) = v + 1 := IntWalk.i64_in _ (by omega)
    have HR := Lib.hid (show ∀ w, Calls Tryz.prog 21 #[.int .i64 draw, .int .i64 all] w fun e w' => e = .returned (.int .i64 v) ∧ w = w' from fun w => hv ▸ rest_any draw all w hd (by omega))
    have HS := Lib.hid (show ∀ w, Calls Tryz.prog 21 #[.int .i64 (v + 1), .int .i64 all] w fun e w' => e = .returned (.int .i64 (kback all v)) ∧ w = w' from fun w => hs ▸ rest_any (v + 1) all w (by omega) (by omega))
    have H2 := Lib.hid h2
    by_cases he : v = i
    · rw [show kvic all i draw = kback all v by unfold kvic; rw [if_neg h2, ← hv, if_pos he]]
      subst he
      clear ha hd h3 h4 hs hv
      go_enter Tryz.func6, Tryz.ntmps6
      go_wp2_with (first
        | (go_at_call 21; (with_reducible refine (HR.out _).mono ?_); rintro r w1 ⟨rfl, rfl⟩)
        | (go_at_call 21; (with_reducible refine (HS.out _).mono ?_); rintro r w1 ⟨rfl, rfl⟩)
        | fail)
      go_ret
      exact ⟨rfl, rfl⟩
    · rw [show kvic all i draw = v by unfold kvic; rw [if_neg h2, ← hv, if_neg he]]
      clear ha hd h3 h4 hs hv
      go_enter Tryz.func6, Tryz.ntmps6
      go_wp2_with (first
        | (go_at_call 21; (with_reducible refine (HR.out _).mono ?_); rintro r w1 ⟨rfl, rfl⟩)
        | fail)
      go_ret
      exact ⟨rfl, rfl⟩

/-! Bags. -/
@[go_sem ↓] theorem eql_bag (a b c a' b' c' : Int) (w : World) : (binOp .eql 44 (.agg #[.int .i64 a, .int .i64 b, .int .i64 c]) (.agg #[.int .i64 a', .int .i64 b', .int .i64 c'])).run Tryz.prog w = .ok (.bool (decide (a = a' ∧ b = b' ∧ c = c'))) w := by
  by_cases h1 : a = a' <;> by_cases h2 : b = b' <;> by_cases h3 : c = c' <;> simp [go_sem, h1, h2, h3]
@[go_sem ↓] theorem neq_bag (a b c a' b' c' : Int) (w : World) : (binOp .neq 44 (.agg #[.int .i64 a, .int .i64 b, .int .i64 c]) (.agg #[.int .i64 a', .int .i64 b', .int .i64 c'])).run Tryz.prog w = .ok (.bool (!decide (a = a' ∧ b = b' ∧ c = c'))) w := by
  by_cases h1 : a = a' <;> by_cases h2 : b = b' <;> by_cases h3 : c = c' <;> simp [go_sem, h1, h2, h3]
set_option maxHeartbeats 1000000 in
theorem none_any (w : World) : Calls Tryz.prog 47 #[] w fun e w' => e = .returned (bgV 0 0 0) ∧ Below w.heap.size w w' := by
  go_enter Tryz.func47, Tryz.ntmps47
  go_wp2
  exact bodyPost_ret (v := bgV 0 0 0) (by simp [results, Tryz.results47, go_sem]) rfl ⟨rfl, below_alloc0 (Below.refl _ _) _⟩
theorem kbd_is (x : Int) : Lay.imin (Lay.imax x 0) 4 = kbd x := by unfold Lay.imin Lay.imax kbd; split <;> (try split) <;> (try split) <;> omega
set_option maxHeartbeats 1000000 in
theorem bound_any (x : Int) (w : World) : Calls Tryz.prog 67 #[.int .i64 x] w fun e w' => e = .returned (.int .i64 (kbd x)) ∧ w = w' := by
  rw [← kbd_is]
  go_enter Tryz.func67, Tryz.ntmps67
  go_wp2
  go_ret
  exact ⟨rfl, rfl⟩
set_option maxHeartbeats 1000000 in
theorem hasTask_any (p t n : Int) (w : World) : Calls Tryz.prog 86 #[bgV p t n] w fun e w' => e = .returned (.bool (decide (p ≠ 0 ∧ t < n))) ∧ Below w.heap.size w w' := by
  rw [show decide (p ≠ 0 ∧ t < n) = (p != 0 && decide (t < n)) by by_cases h : p = 0 <;> simp [h]]
  by_cases h : p = 0
  · subst h
    go_enter Tryz.func86, Tryz.ntmps86
    go_wp2
    go_ret
    exact ⟨by simp, below_alloc0 (Below.refl _ _) _⟩
  · go_enter Tryz.func86, Tryz.ntmps86
    go_wp2
    go_ret
    exact ⟨rfl, below_alloc0 (Below.refl _ _) _⟩
set_option maxHeartbeats 4000000 in
theorem bounded_any (p t n : Int) (w : World) : Calls Tryz.prog 44 #[bgV p t n] w fun e w' => e = .returned (bgV p (kbd t) (kbd n)) ∧ Below w.heap.size w w' := by
  go_enter Tryz.func44, Tryz.ntmps44
  go_wp2
  go_region_with (first
    | (go_at_call 67; (with_reducible refine (bound_any _ _).mono ?_); rintro r w1 ⟨rfl, rfl⟩)
    | fail)
  all_goals
    go_wp2
    refine bodyPost_ret (v := bgV p (kbd t) (kbd n)) (by simp [results, Tryz.results44, go_sem]) rfl ⟨rfl, (below_alloc0 (below_alloc0 (Below.refl _ _) _) _).drew⟩

/-! Ends. -/
set_option maxHeartbeats 1000000 in
theorem kfin_any {w : World} {X N : Nat} {i draw b0 b1 b2 t : Int} {nx dv pv : Value} {fd : Bool} (h : Kb w X N i draw b0 b1 b2 nx dv pv t fd) (x : Int) :
    Calls Tryz.prog 72 #[ptr X, .int .u64 x] w fun e w' => e = .returned (.tuple #[]) ∧ Kb w' X N i draw b0 b1 b2 .nilFunc dv pv x true ∧ UF (fun b => b = X) w w' := by
  have q6 := h.c6; have f6 := h.f 6
  have H6 := Lib.hid (h.p6 .nilFunc)
  have H9 := Lib.hid (H6.out.p9 x)
  have H10 := Lib.hid (H9.out.p10 true)
  have f9 := H6.out.f 9; have f10 := H9.out.f 10
  have q9 := H6.out.c9; have q10 := H9.out.c10
  clear h
  go_enter Tryz.func72, Tryz.ntmps72
  go_wp2
  go_returns
  exact ⟨rfl, H10.out, ((UF.set _ _ _ _).trans (UF.set _ X _ _) (fun _ x => x) (fun _ _ x => x)).trans (UF.set _ X _ _) (fun _ x => x) (fun _ _ x => x)⟩
set_option maxHeartbeats 1000000 in
theorem giveUp_any {w : World} {X N : Nat} {i draw b0 b1 b2 t : Int} {nx dv pv : Value} {fd : Bool} (h : Kb w X N i draw b0 b1 b2 nx dv pv t fd) :
    Calls Tryz.prog 131 #[ptr X] w fun e w' => e = .returned (.tuple #[]) ∧ Kb w' X N i draw b0 b1 b2 .nilFunc dv pv t fd ∧ UF (fun b => b = X) w w' := by
  have q6 := h.c6; have f6 := h.f 6
  have H6 := Lib.hid (h.p6 .nilFunc)
  clear h
  go_enter Tryz.func131, Tryz.ntmps131
  go_wp2
  go_returns
  exact ⟨rfl, H6.out, UF.set _ _ _ _⟩
set_option maxHeartbeats 1000000 in
theorem task_raw {w : World} {X N : Nat} {i draw b0 b1 b2 t : Int} {nx dv pv : Value} {fd : Bool} (h : Kb w X N i draw b0 b1 b2 nx dv pv t fd) :
    Calls Tryz.prog 16 #[ptr X] w fun e w' => e = .returned (.tuple #[.int .u64 t, .bool fd]) ∧ Below w.heap.size w w' := by
  have q9 := h.c9; have q10 := h.c10
  clear h
  go_enter Tryz.func16, Tryz.ntmps16
  go_wp2
  go_quiet (fail)
  go_wp2
  go_ret2
  exact ⟨rfl, below_drewN (Below.refl _ _) _⟩
set_option maxHeartbeats 1000000 in
theorem bag_raw {w : World} {X N : Nat} {i draw b0 b1 b2 t : Int} {nx dv pv : Value} {fd : Bool} (h : Kb w X N i draw b0 b1 b2 nx dv pv t fd) :
    Calls Tryz.prog 17 #[ptr X] w fun e w' => e = .returned (bgV b0 b1 b2) ∧ Below w.heap.size w w' := by
  obtain ⟨q0, q1, q2, q3, q4, q5⟩ := (h.step (below_alloc0 (Below.refl _ _) (.cells #[.int .i64 0, .int .i64 0, .int .i64 0] 44))).cc
  clear h
  go_enter Tryz.func17, Tryz.ntmps17
  go_wp2
  exact bodyPost_ret (v := bgV b0 b1 b2) (by simp [results, Tryz.results17, go_sem]) rfl ⟨rfl, below_alloc0 (Below.refl _ _) _⟩
end Go.Proofs.YtnfbjebhpljikaaGreat
