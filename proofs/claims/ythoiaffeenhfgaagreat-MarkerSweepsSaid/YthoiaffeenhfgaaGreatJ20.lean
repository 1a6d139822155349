/-  -/
import Derived.Test.YthoiaffeenhfgaaGreatJ18
import Derived.Test.YthoiaffeenhfgaaGreatJ19
import Derived.Test.YthoiaffeenhfgaaGreatJ11
import Derived.Test.YthoiaffeenhfgaaGreatScM
namespace Go.Proofs.YthoiaffeenhfgaaGreat
open Go.RowKit
set_option linter.unusedVariables false
set_option linter.unusedSimpArgs false
set_option maxRecDepth 100000
open Lay (plcc plc shOf packN nodesN OkC Cfg Norm firstV Rep lenL things)
def Kb (w : World) (X N : Nat) (i draw b0 b1 b2 : Int) (nx dv pv : Value) (t : Int) (fd : Bool) : Prop :=
  w.heap[X]? = some (.cells #[Lay.mapP N, .int .i64 i, .int .i64 draw, .int .i64 b0, .int .i64 b1, .int .i64 b2, nx, dv, pv, .int .u64 t, .bool fd] 136 (0, 0))
section
variable {w w' : World} {X N : Nat} {i draw b0 b1 b2 t : Int} {nx dv pv : Value} {fd : Bool}
theorem Kb.lt (h : Kb w X N i draw b0 b1 b2 nx dv pv t fd) : X < w.heap.size := (Array.getElem?_eq_some_iff.1 h).1
theorem Kb.f (h : Kb w X N i draw b0 b1 b2 nx dv pv t fd) (j : Nat) : w.frozen? ⟨X, j, none⟩ = false := frozen_of_row w X j _ _ h
theorem Kb.cc (h : Kb w X N i draw b0 b1 b2 nx dv pv t fd) : w.cell? ⟨X, 0, none⟩ = some (Lay.mapP N) ∧ w.cell? ⟨X, 1, none⟩ = some (.int .i64 i) ∧ w.cell? ⟨X, 2, none⟩ = some (.int .i64 draw) ∧ w.cell? ⟨X, 3, none⟩ = some (.int .i64 b0) ∧ w.cell? ⟨X, 4, none⟩ = some (.int .i64 b1) ∧ w.cell? ⟨X, 5, none⟩ = some (.int .i64 b2) := by
  have := h; unfold Kb at this; simp [World.cell?, this]
theorem Kb.c6 (h : Kb w X N i draw b0 b1 b2 nx dv pv t fd) : w.cell? ⟨X, 6, none⟩ = some nx := by have := h; unfold Kb at this; simp [World.cell?, this]
theorem Kb.c7 (h : Kb w X N i draw b0 b1 b2 nx dv pv t fd) : w.cell? ⟨X, 7, none⟩ = some dv := by have := h; unfold Kb at this; simp [World.cell?, this]
theorem Kb.c8 (h : Kb w X N i draw b0 b1 b2 nx dv pv t fd) : w.cell? ⟨X, 8, none⟩ = some pv := by have := h; unfold Kb at this; simp [World.cell?, this]
theorem Kb.c9 (h : Kb w X N i draw b0 b1 b2 nx dv pv t fd) : w.cell? ⟨X, 9, none⟩ = some (.int .u64 t) := by have := h; unfold Kb at this; simp [World.cell?, this]
theorem Kb.c10 (h : Kb w X N i draw b0 b1 b2 nx dv pv t fd) : w.cell? ⟨X, 10, none⟩ = some (.bool fd) := by have := h; unfold Kb at this; simp [World.cell?, this]
theorem Kb.same (h : Kb w X N i draw b0 b1 b2 nx dv pv t fd) (k : w'.heap[X]? = w.heap[X]?) : Kb w' X N i draw b0 b1 b2 nx dv pv t fd := k.trans h
theorem Kb.step (h : Kb w X N i draw b0 b1 b2 nx dv pv t fd) (hb : Below w.heap.size w w') : Kb w' X N i draw b0 b1 b2 nx dv pv t fd := (hb.block X h.lt).trans h
theorem Kb.put (h : Kb w X N i draw b0 b1 b2 nx dv pv t fd) (j : Nat) (y : Value) {i' draw' b0' b1' b2' t' : Int} {nx' dv' pv' : Value} {f' : Bool}
    (hh : (#[Lay.mapP N, .int .i64 i, .int .i64 draw, .int .i64 b0, .int .i64 b1, .int .i64 b2, nx, dv, pv, .int .u64 t, .bool fd] : Array Value).setIfInBounds j y = #[Lay.mapP N, .int .i64 i', .int .i64 draw', .int .i64 b0', .int .i64 b1', .int .i64 b2', nx', dv', pv', .int .u64 t', .bool f']) :
    Kb (w.setCell ⟨X, j, none⟩ y) X N i' draw' b0' b1' b2' nx' dv' pv' t' f' := by
  unfold Kb
  rw [heap_setCell_same w X j _ 136 _ h, hh]
theorem Kb.p3 (h : Kb w X N i draw b0 b1 b2 nx dv pv t fd) (y : Int) : Kb (w.setCell ⟨X, 3, none⟩ (.int .i64 y)) X N i draw y b1 b2 nx dv pv t fd := h.put 3 _ rfl
theorem Kb.p4 (h : Kb w X N i draw b0 b1 b2 nx dv pv t fd) (y : Int) : Kb (w.setCell ⟨X, 4, none⟩ (.int .i64 y)) X N i draw b0 y b2 nx dv pv t fd := h.put 4 _ rfl
theorem Kb.p5 (h : Kb w X N i draw b0 b1 b2 nx dv pv t fd) (y : Int) : Kb (w.setCell ⟨X, 5, none⟩ (.int .i64 y)) X N i draw b0 b1 y nx dv pv t fd := h.put 5 _ rfl
theorem Kb.pb (h : Kb w X N i draw b0 b1 b2 nx dv pv t fd) (x y z : Int) : Kb (((w.setCell ⟨X, 3, none⟩ (.int .i64 x)).setCell ⟨X, 4, none⟩ (.int .i64 y)).setCell ⟨X, 5, none⟩ (.int .i64 z)) X N i draw x y z nx dv pv t fd := ((h.p3 x).p4 y).p5 z
theorem Kb.p6 (h : Kb w X N i draw b0 b1 b2 nx dv pv t fd) (y : Value) : Kb (w.setCell ⟨X, 6, none⟩ y) X N i draw b0 b1 b2 y dv pv t fd := h.put 6 _ rfl
theorem Kb.p7 (h : Kb w X N i draw b0 b1 b2 nx dv pv t fd) (y : Value) : Kb (w.setCell ⟨X, 7, none⟩ y) X N i draw b0 b1 b2 nx y pv t fd := h.put 7 _ rfl
theorem Kb.p8 (h : Kb w X N i draw b0 b1 b2 nx dv pv t fd) (y : Value) : Kb (w.setCell ⟨X, 8, none⟩ y) X N i draw b0 b1 b2 nx dv y t fd := h.put 8 _ rfl
theorem Kb.p9 (h : Kb w X N i draw b0 b1 b2 nx dv pv t fd) (y : Int) : Kb (w.setCell ⟨X, 9, none⟩ (.int .u64 y)) X N i draw b0 b1 b2 nx dv pv y fd := h.put 9 _ rfl
theorem Kb.p10 (h : Kb w X N i draw b0 b1 b2 nx dv pv t fd) (y : Bool) : Kb (w.setCell ⟨X, 10, none⟩ (.bool y)) X N i draw b0 b1 b2 nx dv pv t y := h.put 10 _ rfl
end
abbrev bgV (a b c : Int) : Value := .agg #[.int .i64 a, .int .i64 b, .int .i64 c]
theorem tmod_rest {n by' : Int} (h : 2 ≤ by') : (if Int.tmod n by' < 0 then Int.tmod n by' + by' else Int.tmod n by') = n % by' := by
  have h1 := Int.tmod_lt_of_pos n (show 0 < by' by omega)
  have h2 := Int.lt_tmod_of_pos n (show 0 < by' by omega)
  have h3 := Int.emod_nonneg n (show by' ≠ 0 by omega)
  have h4 := Int.emod_lt_of_pos n (show 0 < by' by omega)
  have d1 : by' ∣ n - n.tmod by' := Int.dvd_self_sub_tmod
  obtain ⟨k, hk⟩ := d1
  have d2 : by' ∣ n - n % by' := Int.dvd_self_sub_emod
  obtain ⟨j, hj⟩ := d2
  have e : n.tmod by' - n % by' = by' * (j - k) := by rw [Int.mul_sub, ← hk, ← hj]; omega
  split
  · have : j - k = -1 := by
      rcases Int.lt_trichotomy (j - k) (-1) with x | x | x
      · have := Int.mul_le_mul_of_nonneg_left (show j - k ≤ -2 by omega) (show 0 ≤ by' by omega); omega
      · exact x
      · have := Int.mul_le_mul_of_nonneg_left (show 0 ≤ j - k by omega) (show 0 ≤ by' by omega); omega
    rw [this] at e; omega
  · have : j - k = 0 := by
      rcases Int.lt_trichotomy (j - k) 0 with x | x | x
      · have := Int.mul_le_mul_of_nonneg_left (show j - k ≤ -1 by omega) (show 0 ≤ by' by omega); omega
      · exact x
      · have := Int.mul_le_mul_of_nonneg_left (show 1 ≤ j - k by omega) (show 0 ≤ by' by omega); omega
    rw [this] at e; omega
set_option maxHeartbeats 1000000 in
theorem rest_any (n b : Int) (w : World) (hn : -9223372036854775808 ≤ n ∧ n ≤ 9223372036854775807) (hb : 2 ≤ b ∧ b ≤ 9223372036854775807) :
    Calls Tryz.prog 196 #[.int .i64 n, .int .i64 b] w fun e w' => e = .returned (.int .i64 (n % b)) ∧ w = w' := by
  have e := tmod_rest (n := n) hb.1
  have h1 := Int.tmod_lt_of_pos n (show 0 < b by omega)
  have h2 := Int.lt_tmod_of_pos n (show 0 < b by omega)
  have hb0 : b ≠ 0 := by omega
  have hb1 : b ≠ -1 := by omega
  have ew : IntKind.i64.wrap (Int.tmod n b) = Int.tmod n b := IntWalk.i64_in _ (by omega)
  by_cases h : Int.tmod n b < 0
  · rw [if_pos h] at e
    have ew2 : IntKind.i64.wrap (Int.tmod n b + b) = n % b := by rw [e]; exact IntWalk.i64_in _ (by have := Int.emod_nonneg n hb0; have := Int.emod_lt_of_pos n (show 0 < b by omega); omega)
    clear hn hb e h1 h2
    go_enter Tryz.func196, Tryz.ntmps196
    go_wp2
    go_ret
    exact ⟨rfl, rfl⟩
  · rw [if_neg h] at e
    rw [← e]
    clear hn hb e h1 h2
    go_enter Tryz.func196, Tryz.ntmps196
    go_wp2
    go_ret
    exact ⟨rfl, rfl⟩
theorem emod_suc {d all : Int} (h : 2 ≤ all) : (d % all + 1) % all = kback all (d % all) := by
  have h3 := Int.emod_nonneg d (show all ≠ 0 by omega)
  have h4 := Int.emod_lt_of_pos d (show 0 < all by omega)
  unfold kback
  split
  · rename_i e; rw [e]; simp
  · exact Int.emod_eq_of_lt (by omega) (by omega)
set_option maxHeartbeats 1000000 in
theorem victim_any (all i draw : Int) (w : World) (ha : -9223372036854775808 ≤ all ∧ all ≤ 9223372036854775807) (hd : -9223372036854775808 ≤ draw ∧ draw ≤ 9223372036854775807) :
    Calls Tryz.prog 186 #[.int .i64 all, .int .i64 i, .int .i64 draw] w fun e w' => e = .returned (.int .i64 (kvic all i draw)) ∧ w = w' := by
  have HA := Lib.hid ha; have HD := Lib.hid hd
  by_cases h2 : all < 2
  · rw [show kvic all i draw = -1 by unfold kvic; rw [if_pos h2]]
    clear ha hd
    go_enter Tryz.func186, Tryz.ntmps186
    go_wp2
    go_ret
    exact ⟨rfl, rfl⟩
  · have h3 := Int.emod_nonneg draw (show all ≠ 0 by omega)
    have h4 := Int.emod_lt_of_pos draw (show 0 < all by omega)
    have hs := emod_suc (d := draw) (all := all) (by omega)
    obtain ⟨v, hv⟩ : ∃ v, v = draw % all := ⟨_, rfl⟩
    rw [← hv] at h3 h4 hs
    have ew : IntKind.i64.wrap (v + 1) = v + 1 := IntWalk.i64_in _ (by omega)
    have HR := Lib.hid (show ∀ w, Calls Tryz.prog 196 #[.int .i64 draw, .int .i64 all] w fun e w' => e = .returned (.int .i64 v) ∧ w = w' from fun w => hv ▸ rest_any draw all w hd (by omega))
    have HS := Lib.hid (show ∀ w, Calls Tryz.prog 196 #[.int .i64 (v + 1), .int .i64 all] w fun e w' => e = .returned (.int .i64 (kback all v)) ∧ w = w' from fun w => hs ▸ rest_any (v + 1) all w (by omega) (by omega))
    have H2 := Lib.hid h2
    by_cases he : v = i
    · rw [show kvic all i draw = kback all v by unfold kvic; rw [if_neg h2, ← hv, if_pos he]]
      subst he
      clear ha hd h3 h4 hs hv
      go_enter Tryz.func186, Tryz.ntmps186
      go_wp2_with (first
        | (go_at_call 196; (with_reducible refine (HR.out _).mono ?_); rintro r w1 ⟨rfl, rfl⟩)
        | (go_at_call 196; (with_reducible refine (HS.out _).mono ?_); rintro r w1 ⟨rfl, rfl⟩)
        | fail)
      go_ret
      exact ⟨rfl, rfl⟩
    · rw [show kvic all i draw = v by unfold kvic; rw [if_neg h2, ← hv, if_neg he]]
      clear ha hd h3 h4 hs hv
      go_enter Tryz.func186, Tryz.ntmps186
      go_wp2_with (first
        | (go_at_call 196; (with_reducible refine (HR.out _).mono ?_); rintro r w1 ⟨rfl, rfl⟩)
        | fail)
      go_ret
      exact ⟨rfl, rfl⟩
@[go_sem ↓] theorem eql_bag (a b c a' b' c' : Int) (w : World) : (binOp .eql 47 (.agg #[.int .i64 a, .int .i64 b, .int .i64 c]) (.agg #[.int .i64 a', .int .i64 b', .int .i64 c'])).run Tryz.prog w = .ok (.bool (decide (a = a' ∧ b = b' ∧ c = c'))) w := by
  by_cases h1 : a = a' <;> by_cases h2 : b = b' <;> by_cases h3 : c = c' <;> simp [go_sem, h1, h2, h3]
set_option maxHeartbeats 1000000 in
theorem none_anyE (w : World) : Calls Tryz.prog 124 #[] w fun e w' => e = .returned (bgV 0 0 0) ∧ Below w.heap.size w w' := by
  go_enter Tryz.func124, Tryz.ntmps124
  go_wp2
  exact bodyPost_ret (v := bgV 0 0 0) (by simp [results, Tryz.results124, go_sem]) rfl ⟨rfl, below_alloc0 (Below.refl _ _) _⟩
theorem kbd_is (x : Int) : Lay.imin (Lay.imax x 0) 4 = kbd x := by unfold Lay.imin Lay.imax kbd; split <;> (try split) <;> (try split) <;> omega
set_option maxHeartbeats 1000000 in
theorem bound_any (x : Int) (w : World) : Calls Tryz.prog 120 #[.int .i64 x] w fun e w' => e = .returned (.int .i64 (kbd x)) ∧ w = w' := by
  rw [← kbd_is]
  go_enter Tryz.func120, Tryz.ntmps120
  go_wp2
  go_ret
  exact ⟨rfl, rfl⟩
set_option maxHeartbeats 1000000 in
theorem hasTask_any (p t n : Int) (w : World) : Calls Tryz.prog 139 #[bgV p t n] w fun e w' => e = .returned (.bool (decide (p ≠ 0 ∧ t < n))) ∧ Below w.heap.size w w' := by
  rw [show decide (p ≠ 0 ∧ t < n) = (p != 0 && decide (t < n)) by by_cases h : p = 0 <;> simp [h]]
  by_cases h : p = 0
  · subst h
    go_enter Tryz.func139, Tryz.ntmps139
    go_wp2
    go_ret
    exact ⟨by simp, below_alloc0 (Below.refl _ _) _⟩
  · go_enter Tryz.func139, Tryz.ntmps139
    go_wp2
    go_ret
    exact ⟨rfl, below_alloc0 (Below.refl _ _) _⟩
set_option maxHeartbeats 4000000 in
theorem bounded_any (p t n : Int) (w : World) : Calls Tryz.prog 107 #[bgV p t n] w fun e w' => e = .returned (bgV p (kbd t) (kbd n)) ∧ Below w.heap.size w w' := by
  go_enter Tryz.func107, Tryz.ntmps107
  go_wp2
  go_region_with (first
    | (go_at_call 120; (with_reducible refine (bound_any _ _).mono ?_); rintro r w1 ⟨rfl, rfl⟩)
    | fail)
  all_goals
    go_wp2
    refine bodyPost_ret (v := bgV p (kbd t) (kbd n)) (by simp [results, Tryz.results107, go_sem]) rfl ⟨rfl, (below_alloc0 (below_alloc0 (Below.refl _ _) _) _).drew⟩
set_option maxHeartbeats 1000000 in
theorem kfin_any {w : World} {X N : Nat} {i draw b0 b1 b2 t : Int} {nx dv pv : Value} {fd : Bool} (h : Kb w X N i draw b0 b1 b2 nx dv pv t fd) (x : Int) :
    Calls Tryz.prog 122 #[ptr X, .int .u64 x] w fun e w' => e = .returned (.tuple #[]) ∧ Kb w' X N i draw b0 b1 b2 .nilFunc dv pv x true ∧ UF (fun b => b = X) w w' := by
  have q6 := h.c6; have f6 := h.f 6
  have H6 := Lib.hid (h.p6 .nilFunc)
  have H9 := Lib.hid (H6.out.p9 x)
  have H10 := Lib.hid (H9.out.p10 true)
  have f9 := H6.out.f 9; have f10 := H9.out.f 10
  have q9 := H6.out.c9; have q10 := H9.out.c10
  clear h
  go_enter Tryz.func122, Tryz.ntmps122
  go_wp2
  go_returns
  exact ⟨rfl, H10.out, ((UF.set _ _ _ _).trans (UF.set _ X _ _) (fun _ x => x) (fun _ _ x => x)).trans (UF.set _ X _ _) (fun _ x => x) (fun _ _ x => x)⟩
set_option maxHeartbeats 1000000 in
theorem giveUp_any {w : World} {X N : Nat} {i draw b0 b1 b2 t : Int} {nx dv pv : Value} {fd : Bool} (h : Kb w X N i draw b0 b1 b2 nx dv pv t fd) :
    Calls Tryz.prog 187 #[ptr X] w fun e w' => e = .returned (.tuple #[]) ∧ Kb w' X N i draw b0 b1 b2 .nilFunc dv pv t fd ∧ UF (fun b => b = X) w w' := by
  have q6 := h.c6; have f6 := h.f 6
  have H6 := Lib.hid (h.p6 .nilFunc)
  clear h
  go_enter Tryz.func187, Tryz.ntmps187
  go_wp2
  go_returns
  exact ⟨rfl, H6.out, UF.set _ _ _ _⟩
set_option maxHeartbeats 1000000 in
theorem task_raw {w : World} {X N : Nat} {i draw b0 b1 b2 t : Int} {nx dv pv : Value} {fd : Bool} (h : Kb w X N i draw b0 b1 b2 nx dv pv t fd) :
    Calls Tryz.prog 112 #[ptr X] w fun e w' => e = .returned (.tuple #[.int .u64 t, .bool fd]) ∧ Below w.heap.size w w' := by
  have q9 := h.c9; have q10 := h.c10
  clear h
  go_enter Tryz.func112, Tryz.ntmps112
  go_wp2
  go_quiet (fail)
  go_wp2
  go_ret2
  exact ⟨rfl, below_drewN (Below.refl _ _) _⟩
set_option maxHeartbeats 1000000 in
theorem bag_raw {w : World} {X N : Nat} {i draw b0 b1 b2 t : Int} {nx dv pv : Value} {fd : Bool} (h : Kb w X N i draw b0 b1 b2 nx dv pv t fd) :
    Calls Tryz.prog 111 #[ptr X] w fun e w' => e = .returned (bgV b0 b1 b2) ∧ Below w.heap.size w w' := by
  obtain ⟨q0, q1, q2, q3, q4, q5⟩ := (h.step (below_alloc0 (Below.refl _ _) (.cells #[.int .i64 0, .int .i64 0, .int .i64 0] 47))).cc
  clear h
  go_enter Tryz.func111, Tryz.ntmps111
  go_wp2
  exact bodyPost_ret (v := bgV b0 b1 b2) (by simp [results, Tryz.results111, go_sem]) rfl ⟨rfl, below_alloc0 (Below.refl _ _) _⟩
end Go.Proofs.YthoiaffeenhfgaaGreat

namespace Go.Proofs.YthoiaffeenhfgaaGreat
open Go.RowKit
set_option linter.unusedVariables false
set_option linter.unusedSimpArgs false
set_option maxRecDepth 100000
open Lay (plcc plc nodesN OkC Cfg kindV)
set_option maxHeartbeats 400000 in
theorem cycle_any (x : Int) (hx : 0 ≤ x) (hx2 : x ≤ 18446744073709551615) (w : World) :
    Calls Tryz.prog 61 #[.int .u64 x] w fun e w' => e = .returned (.tuple #[.int .u64 (x / 8), .int .i64 (x % 8)]) ∧ Below w.heap.size w w' := by
  go_enter Tryz.func61, Tryz.ntmps61
  go_wp2_with (go_at_call 83; refine (part_any 8 x (by omega) (by omega) hx hx2 _).mono ?_; rintro e w1 ⟨rfl, hb⟩)
  go_quiet (fail)
  go_wp2
  go_ret2
  exact ⟨rfl, below_drewN ((hb.alloc hb.size _)) _⟩
theorem phase_any (x p : Int) (hx : 0 ≤ x) (hx2 : x ≤ 18446744073709551615) (w : World) :
    Calls Tryz.prog 20 #[.int .u64 x, .int .i64 p] w fun e w' => e = .returned (.int .u64 ((x * 8 + p % 8) % 18446744073709551616)) ∧ Below w.heap.size w w' := by
  go_enter Tryz.func20, Tryz.ntmps20
  go_wp2_with (go_at_call 63; refine (join_any 8 x (IntKind.u64.wrap p) (by omega) (by omega) hx hx2 (by rw [IntKind.wrap_u64]; omega) (by rw [IntKind.wrap_u64]; omega) _).mono ?_; rintro e w1 ⟨rfl, hb⟩)
  go_ret
  exact ⟨ret_int (by rw [IntKind.wrap_u64, IntKind.wrap_u64, IntKind.wrap_u64]; omega), hb⟩
structure Mz where
  i : Int
  dg : Int
  nx : Value
  ot : Value
  th : Value
  sk : Option Addr
  tk : Int
  hs : Bool
  b0 : Int
  b1 : Int
  b2 : Int
  ek : Int
  ea : Int
  eb : Int
def Mrow (mp : Option Addr) (z : Mz) : Array Value := #[.pointer mp, .int .i64 z.i, .int .i64 z.dg, z.nx, z.ot, z.th, .pointer z.sk, .int .u64 z.tk, .bool z.hs, .int .i64 z.b0, .int .i64 z.b1, .int .i64 z.b2, .int .i64 z.ek, .int .i64 0, .int .i64 z.ea, .int .i64 z.eb, .int .i64 0]
def Mb (w : World) (X : Nat) (mp : Option Addr) (z : Mz) : Prop := w.heap[X]? = some (.cells (Mrow mp z) 91 (0, 0))
section
variable {w w' : World} {X : Nat} {mp : Option Addr} {z : Mz}
theorem Mb.lt (h : Mb w X mp z) : X < w.heap.size := (Array.getElem?_eq_some_iff.1 h).1
theorem Mb.f (h : Mb w X mp z) (j : Nat) : w.frozen? ⟨X, j, none⟩ = false := frozen_of_row w X j _ _ h
theorem Mb.c (h : Mb w X mp z) (j : Nat) : w.cell? ⟨X, j, none⟩ = (Mrow mp z)[j]? := cell_of_row w X j _ _ _ h
theorem Mb.c0 (h : Mb w X mp z) : w.cell? ⟨X, 0, none⟩ = some (.pointer mp) := h.c 0
theorem Mb.c1 (h : Mb w X mp z) : w.cell? ⟨X, 1, none⟩ = some (.int .i64 z.i) := h.c 1
theorem Mb.c2 (h : Mb w X mp z) : w.cell? ⟨X, 2, none⟩ = some (.int .i64 z.dg) := h.c 2
theorem Mb.c3 (h : Mb w X mp z) : w.cell? ⟨X, 3, none⟩ = some z.nx := h.c 3
theorem Mb.c4 (h : Mb w X mp z) : w.cell? ⟨X, 4, none⟩ = some z.ot := h.c 4
theorem Mb.c5 (h : Mb w X mp z) : w.cell? ⟨X, 5, none⟩ = some z.th := h.c 5
theorem Mb.c6 (h : Mb w X mp z) : w.cell? ⟨X, 6, none⟩ = some (.pointer z.sk) := h.c 6
theorem Mb.c7 (h : Mb w X mp z) : w.cell? ⟨X, 7, none⟩ = some (.int .u64 z.tk) := h.c 7
theorem Mb.c8 (h : Mb w X mp z) : w.cell? ⟨X, 8, none⟩ = some (.bool z.hs) := h.c 8
theorem Mb.c9 (h : Mb w X mp z) : w.cell? ⟨X, 9, none⟩ = some (.int .i64 z.b0) := h.c 9
theorem Mb.c10 (h : Mb w X mp z) : w.cell? ⟨X, 10, none⟩ = some (.int .i64 z.b1) := h.c 10
theorem Mb.c11 (h : Mb w X mp z) : w.cell? ⟨X, 11, none⟩ = some (.int .i64 z.b2) := h.c 11
theorem Mb.same (h : Mb w X mp z) (k : w'.heap[X]? = w.heap[X]?) : Mb w' X mp z := k.trans h
theorem Mb.step (h : Mb w X mp z) (hb : Below w.heap.size w w') : Mb w' X mp z := (hb.block X h.lt).trans h
theorem Mb.put (h : Mb w X mp z) (j : Nat) (y : Value) {z' : Mz} (hh : (Mrow mp z).setIfInBounds j y = Mrow mp z') : Mb (w.setCell ⟨X, j, none⟩ y) X mp z' := by
  unfold Mb
  rw [heap_setCell_same w X j _ 91 _ h, hh]
theorem Mb.bag (h : Mb w X mp z) : (w.cell? ⟨X, 9, none⟩ = some (.int .i64 z.b0) ∧ w.cell? ⟨X, 10, none⟩ = some (.int .i64 z.b1)) ∧ w.cell? ⟨X, 11, none⟩ = some (.int .i64 z.b2) := ⟨⟨h.c9, h.c10⟩, h.c11⟩
theorem Mb.bagf (h : Mb w X mp z) : (w.frozen? ⟨X, 9, none⟩ = false ∧ w.frozen? ⟨X, 10, none⟩ = false) ∧ w.frozen? ⟨X, 11, none⟩ = false := ⟨⟨h.f _, h.f _⟩, h.f _⟩
theorem Mb.ev (h : Mb w X mp z) : (w.cell? ⟨X, 12, none⟩ = some (.int .i64 z.ek) ∧ w.cell? ⟨X, 13, none⟩ = some (.int .i64 0) ∧ w.cell? ⟨X, 14, none⟩ = some (.int .i64 z.ea)) ∧ w.cell? ⟨X, 15, none⟩ = some (.int .i64 z.eb) ∧ w.cell? ⟨X, 16, none⟩ = some (.int .i64 0) := ⟨⟨h.c 12, h.c 13, h.c 14⟩, h.c 15, h.c 16⟩
theorem Mb.evf (h : Mb w X mp z) : (w.frozen? ⟨X, 12, none⟩ = false ∧ w.frozen? ⟨X, 13, none⟩ = false ∧ w.frozen? ⟨X, 14, none⟩ = false) ∧ w.frozen? ⟨X, 15, none⟩ = false ∧ w.frozen? ⟨X, 16, none⟩ = false := ⟨⟨h.f _, h.f _, h.f _⟩, h.f _, h.f _⟩
end
abbrev evK (w : World) (X : Nat) (k a b : Int) : World := ((((w.setCell ⟨X, 12, none⟩ (.int .i64 k)).setCell ⟨X, 13, none⟩ (.int .i64 0)).setCell ⟨X, 14, none⟩ (.int .i64 a)).setCell ⟨X, 15, none⟩ (.int .i64 b)).setCell ⟨X, 16, none⟩ (.int .i64 0)
theorem Mb.pev {w : World} {X : Nat} {mp : Option Addr} {z : Mz} (h : Mb w X mp z) (k a b : Int) : Mb (evK w X k a b) X mp { z with ek := k, ea := a, eb := b } := by
  have h1 : Mb (w.setCell ⟨X, 12, none⟩ (.int .i64 k)) X mp { z with ek := k } := h.put 12 _ rfl
  have h2 : Mb _ X mp { z with ek := k } := h1.put 13 (.int .i64 0) rfl
  have h3 : Mb _ X mp { z with ek := k, ea := a } := h2.put 14 (.int .i64 a) rfl
  have h4 : Mb _ X mp { z with ek := k, ea := a, eb := b } := h3.put 15 (.int .i64 b) rfl
  exact h4.put 16 (.int .i64 0) rfl
theorem UF.evK (w : World) (X : Nat) (k a b : Int) : UF (fun j => j = X) w (evK w X k a b) :=
  ((((UF.set w X 12 _).trans (UF.set _ X 13 _) (fun _ x => x) (fun _ _ x => x)).trans (UF.set _ X 14 _) (fun _ x => x) (fun _ _ x => x)).trans (UF.set _ X 15 _) (fun _ x => x) (fun _ _ x => x)).trans (UF.set _ X 16 _) (fun _ x => x) (fun _ _ x => x)
abbrev bgK (w : World) (X : Nat) (a b c : Int) : World := ((w.setCell ⟨X, 9, none⟩ (.int .i64 a)).setCell ⟨X, 10, none⟩ (.int .i64 b)).setCell ⟨X, 11, none⟩ (.int .i64 c)
theorem Mb.pbg {w : World} {X : Nat} {mp : Option Addr} {z : Mz} (h : Mb w X mp z) (a b c : Int) : Mb (bgK w X a b c) X mp { z with b0 := a, b1 := b, b2 := c } := by
  have h1 : Mb (w.setCell ⟨X, 9, none⟩ (.int .i64 a)) X mp { z with b0 := a } := h.put 9 _ rfl
  have h2 : Mb _ X mp { z with b0 := a, b1 := b } := h1.put 10 (.int .i64 b) rfl
  exact h2.put 11 (.int .i64 c) rfl
theorem UF.bgK (w : World) (X : Nat) (a b c : Int) : UF (fun j => j = X) w (bgK w X a b c) :=
  ((UF.set w X 9 _).trans (UF.set _ X 10 _) (fun _ x => x) (fun _ _ x => x)).trans (UF.set _ X 11 _) (fun _ x => x) (fun _ _ x => x)
set_option maxHeartbeats 1000000 in
theorem noneM_any (w : World) : Calls Tryz.prog 57 #[] w fun e w' => e = .returned (.agg #[.int .i64 0, .int .i64 0, .int .i64 0, .int .i64 0, .int .i64 0]) ∧ Below w.heap.size w w' := by
  go_enter Tryz.func57, Tryz.ntmps57
  go_wp2
  exact bodyPost_ret (v := .agg #[.int .i64 0, .int .i64 0, .int .i64 0, .int .i64 0, .int .i64 0]) (by simp [results, Tryz.results57, go_sem]) rfl ⟨rfl, below_alloc0 (Below.refl _ _) _⟩
section
variable {w : World} {X : Nat} {mp : Option Addr} {z : Mz}
set_option maxHeartbeats 1000000 in
theorem eventM_any (h : Mb w X mp z) : Calls Tryz.prog 16 #[ptr X] w fun e w' => e = .returned (evV z.ek z.ea z.eb) ∧ Below w.heap.size w w' := by
  obtain ⟨⟨e0, e1, e2⟩, e3, e4⟩ := (h.step (below_alloc0 (Below.refl w.heap.size w) (.cells #[.int .i64 0, .int .i64 0, .int .i64 0, .int .i64 0, .int .i64 0] 44))).ev
  clear h
  go_enter Tryz.func16, Tryz.ntmps16
  go_wp2
  exact bodyPost_ret (v := evV z.ek z.ea z.eb) (by simp [results, Tryz.results16, go_sem]) rfl ⟨rfl, below_alloc0 (Below.refl _ _) _⟩
set_option maxHeartbeats 1000000 in
theorem bagM_any (h : Mb w X mp z) : Calls Tryz.prog 17 #[ptr X] w fun e w' => e = .returned (bgV z.b0 z.b1 z.b2) ∧ Below w.heap.size w w' := by
  obtain ⟨⟨e0, e1⟩, e2⟩ := (h.step (below_alloc0 (Below.refl w.heap.size w) (.cells #[.int .i64 0, .int .i64 0, .int .i64 0] 47))).bag
  clear h
  go_enter Tryz.func17, Tryz.ntmps17
  go_wp2
  exact bodyPost_ret (v := bgV z.b0 z.b1 z.b2) (by simp [results, Tryz.results17, go_sem]) rfl ⟨rfl, below_alloc0 (Below.refl _ _) _⟩
set_option maxHeartbeats 1000000 in
theorem doingM_any (h : Mb w X mp z) : Calls Tryz.prog 15 #[ptr X] w fun e w' => e = .returned (.int .i64 z.dg) ∧ w = w' := by
  have c2 := h.c2
  clear h
  go_enter Tryz.func15, Tryz.ntmps15
  go_wp2
  go_ret
  exact ⟨rfl, rfl⟩
set_option maxHeartbeats 1000000 in
theorem taskM_any (h : Mb w X mp z) : Calls Tryz.prog 14 #[ptr X] w fun e w' => e = .returned (.tuple #[.int .u64 z.tk, .bool z.hs]) ∧ Below w.heap.size w w' := by
  have c7 := h.c7; have c8 := h.c8
  clear h
  go_enter Tryz.func14, Tryz.ntmps14
  go_wp2_with (fail)
  go_quiet (fail)
  go_wp2
  go_ret2
  exact ⟨rfl, below_drewN (Below.refl _ _) _⟩
end
end Go.Proofs.YthoiaffeenhfgaaGreat
