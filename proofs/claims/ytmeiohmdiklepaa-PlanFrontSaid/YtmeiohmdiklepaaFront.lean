/- The law of the first turns, and of like periods, walked. -/
import Derived.Test.YtmeiohmdiklepaaParts
namespace Go.Proofs.Ytmeiohmdiklepaa
open Go.RowKit
set_option linter.unusedVariables false

/-- Periods that are none: each counts as 1. -/
def likeL (L : Nat) : List Int := List.replicate L 0
theorem like_len (L : Nat) : (likeL L).length = L := by simp [likeL]
theorem like_bnd (L i : Nat) (h : i < L) : bnd ((likeL L).getD i 0) = 1 := by
  simp [likeL, List.getD, h, bnd]
theorem like_due (L : Nat) (hL : 0 < L) : ∀ k, ∃ q r : Nat, r < L ∧ k = q * L + r ∧ ∀ i, i < L → (dueL (likeL L) k).getD i 0 = (q : Int) + 1 + (if i < r then 1 else 0)
  | 0 => ⟨0, 0, hL, by simp, fun i hi => by
    rw [due_zero _ _ (by rw [like_len]; exact hi), like_bnd L i hi]; simp⟩
  | k + 1 => by
    obtain ⟨q, r, hr, hk, hd⟩ := like_due L hL k
    have hw : who (likeL L) k = r := by
      have h1 := who_is (likeL L) k (by rw [like_len]; exact hL)
      rw [like_len] at h1
      refine least_uniq h1 ⟨hr, fun i hi => ?_⟩
      rw [hd i hi, hd r hr]
      by_cases e : i < r
      · rw [if_pos e, if_neg (by omega)]; omega
      · rw [if_neg e, if_neg (by omega)]; omega
    have hs : ∀ i, i < L → (dueL (likeL L) (k + 1)).getD i 0 = (q : Int) + 1 + (if i < r + 1 then 1 else 0) := fun i hi => by
      rw [due_succ _ _ _ (by rw [like_len]; exact hL), hw, hd i hi, like_bnd L i hi]
      by_cases e : i = r
      · subst e; rw [if_pos rfl, if_neg (by omega), if_pos (by omega)]; omega
      · rw [if_neg e]
        by_cases e2 : i < r
        · rw [if_pos e2, if_pos (by omega)]
        · rw [if_neg e2, if_neg (by omega)]
    by_cases hlt : r + 1 < L
    · exact ⟨q, r + 1, hlt, by omega, hs⟩
    · refine ⟨q + 1, 0, hL, by rw [Nat.succ_mul]; omega, fun i hi => ?_⟩
      rw [hs i hi, if_pos (by omega), if_neg (by omega)]
      simp
theorem like_who (L k : Nat) (hL : 0 < L) : who (likeL L) k = k % L := by
  obtain ⟨q, r, hr, hk, hd⟩ := like_due L hL k
  have hw : who (likeL L) k = r := by
    have h1 := who_is (likeL L) k (by rw [like_len]; exact hL)
    rw [like_len] at h1
    refine least_uniq h1 ⟨hr, fun i hi => ?_⟩
    rw [hd i hi, hd r hr]
    by_cases e : i < r
    · rw [if_pos e, if_neg (by omega)]; omega
    · rw [if_neg e, if_neg (by omega)]; omega
  rw [hw, hk, Nat.add_comm, Nat.add_mul_mod_self_right, Nat.mod_eq_of_lt hr]

theorem Reads.take {w : World} {A : Option Addr} {zs : List Int} (h : Reads w A zs) (n : Nat) : Reads w A (zs.take n) := fun h0 => by
  have h1 : 0 < zs.length := by simp at h0; omega
  obtain ⟨b, off, e, hb, hc⟩ := h h1
  refine ⟨b, off, e, hb, fun j hj => ?_⟩
  have h2 : j < n ∧ j < zs.length := by simp at hj; omega
  rw [hc j h2.2]
  simp [List.getD, h2.1]
theorem order_pos (ps : List Int) (n : Nat) (h : 0 < ps.length) : orderL ps n = outL ps n := by
  unfold orderL; rw [if_neg (by omega)]; simp

theorem reads_owned' {B L c : Nat} {w : World} {A : Option Addr} {l : List Int} (hL : L = l.length) (h : w.ownsRow B 3 1 (.slice A L c) L (l.map (Value.int .i64))) : Reads w A l := by
  subst hL
  obtain ⟨A3, c3, e, hr⟩ := reads_own h
  simp only [Value.slice.injEq] at e
  obtain ⟨rfl, _, rfl⟩ := e
  exact hr

set_option maxHeartbeats 4000000 in
set_option maxRecDepth 100000 in
theorem walkFront (a0 : Option Addr) (len0 cap0 : Nat) (z0 : List Int) (a1 a2 : Int) (w : World) (w0 : IsRow .i64 w a0 len0 cap0 z0) (w1 : (Lit.int .u8 a1).wf = true) (w2 : (Lit.int .u8 a2).wf = true) :
    Calls Try.prog 6 #[.slice a0 len0 cap0, .int .u8 a1, .int .u8 a2] w fun e w' => e = .returned (.bool true) ∧ Below w.heap.size w w' := by
  obtain ⟨hR, hlen, h1, h2⟩ := reads_row w0
  unfold maxLen at h2
  have b1 := wf8 w1
  have b2 := wf8 w2
  clear w0 w1 w2
  generalize z0.take len0 = zs at hR hlen
  obtain ⟨n, rfl⟩ : ∃ m : Nat, a1 = m := ⟨a1.toNat, by omega⟩
  obtain ⟨m, rfl⟩ : ∃ m : Nat, a2 = m := ⟨a2.toNat, by omega⟩
  obtain ⟨L, hL⟩ : ∃ L, L = len0 := ⟨_, rfl⟩
  subst hL
  have HL := Lib.hid hlen.symm
  have hb : Below w.heap.size w w := Below.refl _ _
  by_cases c1 : 20 < L
  · clear hR hlen
    go_enter Try.func6, Try.ntmps6
    go_wp2_with (go_at_call 9; (with_reducible refine (awake_true _).mono ?_); rintro e w1 ⟨rfl, hb1⟩)
    go_ret
    exact ⟨rfl, hb1⟩
  by_cases c2 : L = 0
  · clear hR hlen
    subst c2
    go_enter Try.func6, Try.ntmps6
    go_wp2_with (go_at_call 9; (with_reducible refine (awake_true _).mono ?_); rintro e w1 ⟨rfl, hb1⟩)
    go_ret
    exact ⟨rfl, hb1⟩
  have e1 : (L == 0) = false := by rw [beq_eq_false_iff_ne]; omega
  have e2 : ((L : Int) == 0) = false := by rw [beq_eq_false_iff_ne]; omega
  have hL1 : 1 ≤ L := by omega
  have h0 : 0 < zs.length := by omega
  have o1 := order_pos zs n h0
  have o2 := order_pos zs (n + m) h0
  have hcast : ((n + m : Nat) : Int) = (n : Int) + (m : Int) := by omega
  rw [hcast] at o2
  have O1 := Lib.hid o1
  have O2 := Lib.hid o2
  have L1 := Lib.hid (out_len zs n).symm
  have L2 := Lib.hid (out_len zs (n + m)).symm
  have LT := Lib.hid (out_take zs n m)
  clear c2 hlen h0 o1 o2 hcast
  have o3 := order_pos (likeL L) n (by rw [like_len]; omega)
  have O3 := Lib.hid o3
  have L3 := Lib.hid (out_len (likeL L) n).symm
  have L4 := Lib.hid (like_len L).symm
  clear o3
  obtain ⟨i0, hi, hz0, hz1, hz2⟩ := info_parts info3
  go_enter Try.func6, Try.ntmps6
  go_wp2_with (first
    | (go_at_call 9; (with_reducible refine (awake_true _).mono ?_); rintro e w1 ⟨rfl, hb1⟩; have hR := hR.below hb1; have hb := below_step hb hb.size hb1; clear hb1)
    | (go_at_call 11; (with_reducible refine (order_at _ _ _ zs _ (outL zs n) n _ HL.out hR (by omega) (by omega) O1.out L1.out).mono ?_); rintro e w2 ⟨A, rfl, hRA, hb1⟩; have hR := hR.below hb1; have hb := below_step hb hb.size hb1; clear hb1)
    | (go_at_call 11; (with_reducible refine (order_at _ _ _ zs _ (outL zs (n + m)) (n + m) _ HL.out hR (by omega) (by omega) O2.out L2.out).mono ?_); rintro e w3 ⟨A', rfl, hRA', hb1⟩; have hRA := hRA.below hb1; have hb := below_step hb hb.size hb1; clear hb1; have hRT := hRA'.take n; rw [LT.out] at hRT)
    | (go_at_call 10; (with_reducible refine (same_at _ _ _ _ _ _ (outL zs n) (outL zs n) _ L1.out L1.out hRA hRT (by omega) (by omega)).mono ?_); rintro e w4 ⟨b, hbt, rfl, hb1⟩; have hb := below_step hb hb.size hb1; obtain rfl := hbt.2 rfl; clear hb1 hbt)
    | (refine wpList_make_full w4 rfl _ _ 22 rfl w4.heap.size 3 i0 (.int .i64 0) 1 Try.underlying22 hi hz0 hz1 .i64 .i64 _ _ L rfl rfl rfl rfl (by rw [hz2]; omega) (by unfold maxLen; omega) (Nat.le_refl _) ?_))
  intro w5 hown hgrow
  have hb5 := hb.grown hgrow hb.size (fun r hr => by cases hr)
  have hrow : w5.ownsRow w4.heap.size 3 1 (.slice (some ⟨w4.heap.size, 0, none⟩) L L) L ((likeL L).map (Value.int .i64)) := by simpa [toList_madeCells_one, Value.cells, likeL] using hown
  have hRl := reads_owned' (like_len L).symm hrow
  clear hown hrow hgrow hi hz0 hz1 hz2
  go_wp2_with (go_at_call 11; (with_reducible refine (order_at _ _ _ (likeL L) _ (outL (likeL L) n) n _ L4.out hRl (by omega) (by omega) O3.out L3.out).mono ?_); rintro e w6 ⟨C, rfl, hRC, hb1⟩; have hb5 := below_step hb5 hb5.size hb1; clear hb1)
  have hcells : ∀ j, j < n → ∃ g o2, C = some ⟨g, o2, none⟩ ∧ w6.cell? ⟨g, o2 + j, none⟩ = some (.int .i64 ((j % L : Nat) : Int)) := fun j hj => by
    obtain ⟨g, o2, e, _, hc⟩ := hRC (by rw [out_len]; omega)
    refine ⟨g, o2, e, ?_⟩
    have := hc j (by rw [out_len]; omega)
    rw [out_get _ _ _ hj, like_who L j (by omega)] at this
    exact this
  have HC := Lib.hid hcells
  clear hcells hRC
  go_loopw [12] (fun i wr => ∃ (j q : Nat), j ≤ n ∧ i = .int .i64 j ∧ wr = w6.drewN q) (fun i _ => n - (intOf i).toNat)
  case atStart => exact ⟨0, 0, Nat.zero_le _, rfl, rfl⟩
  case round =>
    obtain ⟨j, q, hj, rfl, rfl⟩ := hrel
    by_cases hjn : j < n
    · obtain ⟨g, o2, rfl, hcell⟩ := HC.out j hjn
      have hj0 : (0 : Int) ≤ (j : Int) := by omega
      have hj1 : (j : Int) < (n : Int) := by omega
      have s1 : (j : Int).tmod (L : Int) = ((j % L : Nat) : Int) := by rw [Int.tmod_eq_emod_of_nonneg (by omega)]; rfl
      have e1 : (L == 0) = false := by rw [beq_eq_false_iff_ne]; omega
      have e2 : ((L : Int) == 0) = false := by rw [beq_eq_false_iff_ne]; omega
      obtain ⟨p, hp⟩ : ∃ p, p = j % L := ⟨_, rfl⟩
      rw [← hp] at hcell s1
      have hpb : p ≤ 20 := by rw [hp]; have := Nat.mod_lt j (show L > 0 by omega); omega
      clear hp
      have s2 : IntKind.i64.wrap (p : Int) = (p : Int) := IntWalk.i64_in _ (by omega)
      go_wp2
      go_quiet (fail)
      clear s1 s2
      go_wp2
      go_roundw
      case rel => exact ⟨j + 1, _, by omega, by go_num, rfl⟩
      case measure => simp [intOf]; omega
    · obtain rfl : j = n := by omega
      go_wp2
      go_ret
      exact ⟨rfl, below_drewN hb5 q⟩
end Go.Proofs.Ytmeiohmdiklepaa
