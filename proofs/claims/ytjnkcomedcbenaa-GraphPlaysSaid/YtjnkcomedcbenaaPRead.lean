/- The program's graph: a root, a slot itself, whether there is room, how many nodes; walked. -/
import Derived.Test.YtjnkcomedcbenaaPMem
namespace Go.Proofs.Ytjnkcomedcbenaa
open Go.RowKit
set_option linter.unusedVariables false

section
variable {w : World} {S R : Nat} {t : Nat → Tag} {rv sv : List Value} {N : Value} {g : Gr}
theorem root_yes {m a : Int} (h0 : 0 ≤ gRoot g m a) : isIn g.roots.length m = true ∧ isIn (row g.roots m.toNat).length a = true ∧ gRoot g m a = num (row g.roots m.toNat) a.toNat := by
  unfold gRoot at h0 ⊢
  split at h0
  · rename_i hc
    rw [Bool.and_eq_true] at hc
    rw [if_pos (by rw [hc.1, hc.2]; rfl)]
    exact ⟨hc.1, hc.2, rfl⟩
  · omega
set_option maxHeartbeats 800000 in
theorem rootP_yes (h : PM w S R t rv sv N g) (m a : Int) (h0 : 0 ≤ gRoot g m a) : Calls Try.prog 45 #[ptr S, .int .i64 m, .int .i64 a] w fun e w' => e = .returned (.tuple #[.int .i64 (gRoot g m a), .bool true]) ∧ w = w' := by
  obtain ⟨h1, h2, h3⟩ := root_yes h0
  have hr := h.rowAt m
  rw [h1, if_pos rfl] at hr
  obtain ⟨A, c, hv, hrd, -⟩ := hr
  have hai := isIn_iff.1 h2
  obtain ⟨i, rfl⟩ : ∃ i : Nat, a = (i : Int) := ⟨a.toNat, by omega⟩
  obtain ⟨b, off, rfl, hlt, hc⟩ := hrd (by omega)
  have cc := hc i (by omega)
  rw [show (row g.roots m.toNat).getD i 0 = gRoot g m (i : Int) from h3.symm] at cc
  obtain ⟨x, hx⟩ : ∃ x, x = gRoot g m (i : Int) := ⟨_, rfl⟩
  rw [← hx] at cc ⊢
  obtain ⟨n, hn⟩ : ∃ n, n = (row g.roots m.toNat).length := ⟨_, rfl⟩
  rw [← hn] at hv h2 hai
  have HV := Lib.hid hv; have H2 := Lib.hid h2; have H := Lib.hid h
  have i0 : (0 : Int) ≤ (i : Int) := by omega
  have i1 : (i : Int) < (n : Int) := hai.2
  clear h h0 h1 h2 h3 hv hrd hc hai hx hn
  go_enter Try.func45, Try.ntmps45
  go_wp2_with (first
    | (go_at_call 43; (with_reducible refine (rootsOf_any H.out m).mono ?_); rintro r w1 ⟨rfl, rfl⟩; rw [HV.out])
    | (go_at_call 53; (with_reducible refine (has43_any _ _ _ _ _).mono ?_); rintro r w1 ⟨rfl, rfl⟩; rw [H2.out])
    | fail)
  go_ret2
  exact ⟨rfl, rfl⟩
set_option maxHeartbeats 800000 in
theorem rootP_no (h : PM w S R t rv sv N g) (hk : Ok g) (m a : Int) (h0 : gRoot g m a < 0) : Calls Try.prog 45 #[ptr S, .int .i64 m, .int .i64 a] w fun e w' => e = .returned (.tuple #[.int .i64 0, .bool false]) ∧ w = w' := by
  obtain ⟨A, c, hv, -⟩ := h.rowAt m
  have hno : isIn (if isIn g.roots.length m = true then row g.roots m.toNat else []).length a = false := by
    cases e : isIn (if isIn g.roots.length m = true then row g.roots m.toNat else []).length a
    · rfl
    · by_cases e1 : isIn g.roots.length m = true
      · rw [if_pos e1] at e
        have e1' := isIn_iff.1 e1
        have e' := isIn_iff.1 e
        have := (hk.r m.toNat a.toNat (by omega) (by omega)).1
        unfold gRoot at h0
        rw [if_pos (by rw [e1, e]; rfl)] at h0
        omega
      · rw [if_neg e1] at e
        have := isIn_iff.1 e
        simp at this; omega
  obtain ⟨n, hn⟩ : ∃ n, n = (if isIn g.roots.length m = true then row g.roots m.toNat else []).length := ⟨_, rfl⟩
  rw [← hn] at hv hno
  have HV := Lib.hid hv; have H2 := Lib.hid hno; have H := Lib.hid h
  clear h h0 hv hno hn
  go_enter Try.func45, Try.ntmps45
  go_wp2_with (first
    | (go_at_call 43; (with_reducible refine (rootsOf_any H.out m).mono ?_); rintro r w1 ⟨rfl, rfl⟩; rw [HV.out])
    | (go_at_call 53; (with_reducible refine (has43_any _ _ _ _ _).mono ?_); rintro r w1 ⟨rfl, rfl⟩; rw [H2.out])
    | fail)
  go_ret2
  exact ⟨rfl, rfl⟩

/-- Where a slot stands. -/
theorem slot_at (h : PM w S R t rv sv N g) (hk : Ok g) {m a i : Int} (hh : gHas g m a i = true) : ∃ b, rvAt sv g.nodes.length (gRoot g m a - 1) = .slice (some ⟨b, 0, none⟩) (row g.nodes (gRoot g m a - 1).toNat).length (row g.nodes (gRoot g m a - 1).toNat).length ∧ t b = .node (gRoot g m a - 1).toNat ∧ w.heap[b]? = some (.cells ((row g.nodes (gRoot g m a - 1).toNat).map (Value.int .i64)).toArray 3 (0, 0)) := by
  have hi := has_in hk hh
  obtain ⟨b, h1, h2, h3, h4⟩ := h.slots _ hi.2.1
  refine ⟨b, ?_, h2, h3⟩
  rw [← h1]
  unfold rvAt
  rw [if_pos (isIn_iff.2 (by omega))]
set_option maxHeartbeats 800000 in
theorem slotP_yes (h : PM w S R t rv sv N g) (hk : Ok g) (hnn : g.nodes.length ≤ 1000) (m a i : Int) (hh : gHas g m a i = true) {b : Nat} (hb : rvAt sv g.nodes.length (gRoot g m a - 1) = .slice (some ⟨b, 0, none⟩) (row g.nodes (gRoot g m a - 1).toNat).length (row g.nodes (gRoot g m a - 1).toNat).length) :
    Calls Try.prog 44 #[ptr S, .int .i64 m, .int .i64 a, .int .i64 i] w fun e w' => e = .returned (.pointer (some ⟨b, i.toNat, none⟩)) ∧ w = w' := by
  have hi := has_in hk hh
  have hbd := root_bd hk m a
  have h2 : isIn (row g.nodes (gRoot g m a - 1).toNat).length i = true := isIn_iff.2 (by omega)
  obtain ⟨x, hx⟩ : ∃ x, x = gRoot g m a := ⟨_, rfl⟩
  obtain ⟨n, hn⟩ : ∃ n, n = (row g.nodes (gRoot g m a - 1).toNat).length := ⟨_, rfl⟩
  rw [← hn] at hb h2 hi
  obtain ⟨j, rfl⟩ : ∃ j : Nat, i = (j : Int) := ⟨i.toNat, by omega⟩
  have i0 : (0 : Int) ≤ (j : Int) := by omega
  have i1 : (j : Int) < (n : Int) := by omega
  have HP := Lib.hid (show 0 ≤ gRoot g m a by omega)
  have HQ := Lib.hid (show gRoot g m a ≤ 1000000 by omega)
  have HV := Lib.hid hb; have H2 := Lib.hid h2; have H := Lib.hid h; have HX := Lib.hid hx
  rw [Int.toNat_natCast]
  clear h hb h2 hn hh hbd hi hx
  go_enter Try.func44, Try.ntmps44
  go_wp2_with (first
    | (go_at_call 45; (with_reducible refine (rootP_yes H.out m a HP.out).mono ?_); rintro r w1 ⟨rfl, rfl⟩; rw [← HX.out])
    | (go_at_call 38; rw [HX.out]; (with_reducible refine (slotsOf_any H.out (gRoot g m a) HP.out HQ.out).mono ?_); rintro r w1 ⟨rfl, rfl⟩; rw [HV.out])
    | (go_at_call 53; (with_reducible refine (has43_any _ _ _ _ _).mono ?_); rintro r w1 ⟨rfl, rfl⟩; rw [H2.out])
    | fail)
  go_ret
  exact ⟨rfl, rfl⟩
set_option maxHeartbeats 800000 in
theorem slotP_no (h : PM w S R t rv sv N g) (hk : Ok g) (hnn : g.nodes.length ≤ 1000) (m a i : Int) (hh : gHas g m a i = false) :
    Calls Try.prog 44 #[ptr S, .int .i64 m, .int .i64 a, .int .i64 i] w fun e w' => e = .returned (.pointer none) ∧ w = w' := by
  have hbd := root_bd hk m a
  by_cases hr : gRoot g m a < 0
  · have hv : rvAt sv g.nodes.length (0 - 1) = .slice none 0 0 := by
      unfold rvAt
      rw [if_neg (by rw [isIn_iff]; omega)]
    have h2 : isIn 0 i = false := by
      cases e : isIn 0 i
      · rfl
      · have := isIn_iff.1 e; simp at this; omega
    have HV := Lib.hid hv; have H2 := Lib.hid h2; have H := Lib.hid h; have HR := Lib.hid hr
    clear h hh hbd hr hv h2
    go_enter Try.func44, Try.ntmps44
    go_wp2_with (first
      | (go_at_call 45; (with_reducible refine (rootP_no H.out hk m a HR.out).mono ?_); rintro r w1 ⟨rfl, rfl⟩)
      | (go_at_call 38; (with_reducible refine (slotsOf_any H.out 0 (by decide) (by decide)).mono ?_); rintro r w1 ⟨rfl, rfl⟩; rw [HV.out])
      | (go_at_call 53; (with_reducible refine (has43_any _ _ _ _ _).mono ?_); rintro r w1 ⟨rfl, rfl⟩; first | rw [H2.out] | (rw [show isIn 0 i = false from H2.out]))
      | fail)
    go_ret
    exact ⟨rfl, rfl⟩
  · obtain ⟨A, c, hv, -⟩ := h.slotAt (gRoot g m a - 1)
    have h2 : isIn (if isIn g.nodes.length (gRoot g m a - 1) = true then row g.nodes (gRoot g m a - 1).toNat else []).length i = false := by
      by_cases e1 : isIn g.nodes.length (gRoot g m a - 1) = true
      · rw [if_pos e1]
        have := isIn_iff.1 e1
        unfold gHas at hh
        rw [decide_eq_true (by omega), Bool.true_and] at hh
        exact hh
      · rw [if_neg e1]
        cases e : isIn ([] : List Int).length i
        · rfl
        · have := isIn_iff.1 e; simp at this; omega
    obtain ⟨x, hx⟩ : ∃ x, x = gRoot g m a := ⟨_, rfl⟩
    obtain ⟨n, hn⟩ : ∃ n, n = (if isIn g.nodes.length (gRoot g m a - 1) = true then row g.nodes (gRoot g m a - 1).toNat else []).length := ⟨_, rfl⟩
    rw [← hn] at hv h2
    have HP := Lib.hid (show 0 ≤ gRoot g m a by omega)
    have HQ := Lib.hid (show gRoot g m a ≤ 1000000 by omega)
    have HV := Lib.hid hv; have H2 := Lib.hid h2; have H := Lib.hid h; have HX := Lib.hid hx
    clear h hv h2 hn hh hbd hx hr
    go_enter Try.func44, Try.ntmps44
    go_wp2_with (first
      | (go_at_call 45; (with_reducible refine (rootP_yes H.out m a HP.out).mono ?_); rintro r w1 ⟨rfl, rfl⟩; rw [← HX.out])
      | (go_at_call 38; rw [HX.out]; (with_reducible refine (slotsOf_any H.out (gRoot g m a) HP.out HQ.out).mono ?_); rintro r w1 ⟨rfl, rfl⟩; rw [HV.out])
      | (go_at_call 53; (with_reducible refine (has43_any _ _ _ _ _).mono ?_); rintro r w1 ⟨rfl, rfl⟩; rw [H2.out])
      | fail)
    go_ret
    exact ⟨rfl, rfl⟩

theorem has26_b (A : Option Addr) (n c : Nat) (i : Int) (w : World) {b : Bool} (h : isIn n i = b) : Calls Try.prog 49 #[.slice A n c, .int .i64 i] w fun e w' => e = .returned (.bool b) ∧ w = w' := by
  rw [← h]; exact has26_any _ _ _ _ _
set_option maxHeartbeats 1600000 in
theorem takes_any (h : PM w S R t rv sv N g) (m : Int) : Calls Try.prog 46 #[ptr S, .int .i64 m] w fun e w' => e = .returned (.bool (gRoom g m)) ∧ Below w.heap.size w w' := by
  have c0 := h.c0
  have c1 := h.c1
  cases hm : isIn g.roots.length m
  · have e : gRoom g m = false := by unfold gRoom; rw [hm]; rfl
    rw [e]
    have HM := Lib.hid hm
    clear h e hm
    go_enter Try.func46, Try.ntmps46
    go_wp2
    go_quiet ((go_at_call 49; exact (has26_b _ _ _ _ _ HM.out).mono fun _ _ ⟨he, hm⟩ => ⟨he, _, hm.symm⟩))
    go_wp2
    go_ret
    exact ⟨rfl, below_drewN (Below.refl _ _) _⟩
  · have hmi := isIn_iff.1 hm
    obtain ⟨i, rfl⟩ : ∃ i : Nat, m = (i : Int) := ⟨m.toNat, by omega⟩
    have cR := h.cR i (by omega)
    obtain ⟨A, c, hv, -⟩ := (h.lists i (by omega)).rowV
    rw [hv] at cR
    have e : gRoom g (i : Int) = decide (((row g.roots i).length : Int) < g.most) := by unfold gRoom; rw [hm]; rfl
    rw [e]
    have HM := Lib.hid hm
    have h0 : (0 : Int) ≤ (i : Int) := by omega
    have h1 := hmi.2
    clear h e hm hv hmi
    go_enter Try.func46, Try.ntmps46
    go_wp2
    go_quiet ((go_at_call 49; exact (has26_b _ _ _ _ _ HM.out).mono fun _ _ ⟨he, hm⟩ => ⟨he, _, hm.symm⟩))
    go_wp2
    go_ret
    exact ⟨rfl, below_drewN (Below.refl _ _) _⟩
set_option maxHeartbeats 800000 in
theorem nodesP_any (h : PM w S R t rv sv N g) : Calls Try.prog 19 #[ptr S] w fun e w' => e = .returned (.int .i64 (g.nodes.length : Int)) ∧ w = w' := by
  have c2 := h.c2
  obtain ⟨A, c, rfl, -⟩ := h.nv
  clear h
  go_enter Try.func19, Try.ntmps19
  go_wp2
  go_ret
  exact ⟨rfl, rfl⟩
end
end Go.Proofs.Ytjnkcomedcbenaa
