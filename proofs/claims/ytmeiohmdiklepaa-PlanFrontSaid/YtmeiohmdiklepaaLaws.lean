/- The laws of windows and of orders, walked. -/
import Derived.Test.YtmeiohmdiklepaaAwake
import Derived.Test.YtmeiohmdiklepaaAid
namespace Go.Proofs.Ytmeiohmdiklepaa
open Go.RowKit
set_option linter.unusedVariables false

theorem reads_row {w : World} {a : Option Addr} {len cap : Nat} {z : List Int} (h : IsRow .i64 w a len cap z) : Reads w a (z.take len) ∧ (z.take len).length = len ∧ len ≤ cap ∧ cap ≤ maxLen := by
  rcases h with ⟨rfl, rfl, rfl, rfl⟩ | ⟨x, rfl, h1, h2, h3, h4, h5⟩
  · exact ⟨fun h => by simp at h, rfl, Nat.le_refl _, Nat.zero_le _⟩
  · have hl : (z.take len).length = len := by simp; omega
    refine ⟨fun h0 => ?_, hl, h1, h2⟩
    rw [hl] at h0
    have c0 := h4 0 (by omega)
    obtain ⟨b, off, sp⟩ := x
    have hs : sp = none := by
      cases sp with
      | none => rfl
      | some s =>
        exfalso
        simp only [Addr.add, if_true] at c0
        unfold World.cell? at c0
        simp only [Option.isSome_some, if_true] at c0
        split at c0 <;> simp at c0
    subst hs
    refine ⟨b, off, rfl, ?_, fun j hj => ?_⟩
    · have : w.cell? ⟨b, off, none⟩ = some (.int .i64 (z.getD 0 0)) := by simpa [Addr.add] using c0
      unfold World.cell? at this
      by_cases hb : b < w.heap.size
      · exact hb
      · rw [Array.getElem?_eq_none (by omega : w.heap.size ≤ b)] at this
        cases this
    · rw [hl] at hj
      have c := h4 j (by omega)
      have e : (⟨b, off, none⟩ : Addr).add j = ⟨b, off + j, none⟩ := by
        unfold Addr.add
        split
        · rename_i e; subst e; rfl
        · rfl
      rw [e] at c
      rw [c]
      simp [List.getD, hj]

theorem wf64 {a : Int} (h : (Lit.int .i64 a).wf = true) : -9223372036854775808 ≤ a ∧ a ≤ 9223372036854775807 := by
  simp [Lit.wf, IntKind.min, IntKind.max, IntKind.bits, IntKind.signed] at h
  omega

theorem reforder_at (A : Option Addr) (L cap : Nat) (ps : List Int) (n : Int) (zs : List Int) (Z : Nat) (w : World) (hL : L = ps.length) (h : Reads w A ps) (h2 : L ≤ 100) (hn : n ≤ 900) (hz : orderL ps n = zs) (hZ : Z = zs.length) :
    Calls Try.prog 12 #[.slice A L cap, .int .i64 n] w fun e w' => ∃ A' cap', e = .returned (.slice A' Z cap') ∧ Reads w' A' zs ∧ Below w.heap.size w w' := by
  subst hL hz hZ
  refine (reforder_any A cap ps n w h h2 hn).mono ?_
  rintro e w' ⟨v, rfl, ho⟩
  rcases own_slice ho with ⟨e, rfl⟩ | ⟨g, c, rfl, _, _, h3, _, h5⟩
  · exact ⟨none, 0, by rw [e]; rfl, fun h => by rw [e] at h; simp at h, ho.2⟩
  · exact ⟨_, c, rfl, fun _ => ⟨g, 0, rfl, h3, fun j hj => by rw [Nat.zero_add]; exact h5 j hj⟩, ho.2⟩

set_option maxHeartbeats 2000000 in
theorem walkWindows (a0 : Option Addr) (len0 cap0 : Nat) (z0 : List Int) (a1 a2 a3 : Int) (w : World) (w0 : IsRow .i64 w a0 len0 cap0 z0) (w1 : (Lit.int .i64 a1).wf = true) (w2 : (Lit.int .i64 a2).wf = true) (w3 : (Lit.int .i64 a3).wf = true) :
    Calls Try.prog 4 #[.slice a0 len0 cap0, .int .i64 a1, .int .i64 a2, .int .i64 a3] w fun e w' => e = .returned (.bool true) ∧ Below w.heap.size w w' := by
  obtain ⟨hR, hlen, h1, h2⟩ := reads_row w0
  unfold maxLen at h2
  have b1 := wf64 w1; have b2 := wf64 w2
  clear w0 w1 w2 w3
  generalize z0.take len0 = zs at hR hlen
  have HL := Lib.hid hlen.symm; clear hlen
  have hb : Below w.heap.size w w := Below.refl _ _
  by_cases c1 : 60 < len0
  · clear hR
    go_enter Try.func4, Try.ntmps4
    go_wp2_with (go_at_call 9; (with_reducible refine (awake_true _).mono ?_); rintro e w1 ⟨rfl, hb1⟩)
    go_ret
    exact ⟨rfl, hb1⟩
  by_cases c2 : 60 < a1
  · clear hR
    go_enter Try.func4, Try.ntmps4
    go_wp2_with (go_at_call 9; (with_reducible refine (awake_true _).mono ?_); rintro e w1 ⟨rfl, hb1⟩)
    go_ret
    exact ⟨rfl, hb1⟩
  go_enter Try.func4, Try.ntmps4
  go_wp2_with (first
    | (go_at_call 9; (with_reducible refine (awake_true _).mono ?_); rintro e w1 ⟨rfl, hb1⟩; have hR := hR.below hb1; have hb := below_step hb hb.size hb1; clear hb1)
    | (go_at_call 13; (with_reducible refine (win_at _ _ _ zs _ _ _ HL.out hR (by omega) (by omega) (by omega)).mono ?_); rintro e w2 ⟨b, hbt, rfl, hb1⟩; have hR := hR.below hb1; have hb := below_step hb hb.size hb1; clear hb1)
    | (go_at_call 14; (with_reducible refine (refwin_at _ _ _ zs _ _ _ HL.out hR (by omega) (by omega) (by omega)).mono ?_); rintro e w3 ⟨b', hbt', rfl, rfl⟩; obtain rfl : b = b' := (Bool.eq_iff_iff.2 (hbt.trans hbt'.symm)); clear hbt hbt')
    | (go_at_call 15; (with_reducible refine (gap_at _ _ _ zs _ _ HL.out hR (by omega)).mono ?_); rintro e w4 ⟨g, hg, rfl, rfl⟩)
    | (go_at_call 16; (with_reducible refine (refgap_at _ _ _ zs _ _ HL.out hR (by omega)).mono ?_); rintro e w5 ⟨g', hg', rfl, rfl⟩; obtain rfl := gap_uniq hg hg'; clear hg hg'))
  go_ret
  exact ⟨rfl, hb⟩

set_option maxHeartbeats 2000000 in
theorem walkOrder (a0 : Option Addr) (len0 cap0 : Nat) (z0 : List Int) (a1 : Int) (w : World) (w0 : IsRow .i64 w a0 len0 cap0 z0) (w1 : (Lit.int .i64 a1).wf = true) :
    Calls Try.prog 3 #[.slice a0 len0 cap0, .int .i64 a1] w fun e w' => e = .returned (.bool true) ∧ Below w.heap.size w w' := by
  obtain ⟨hR, hlen, h1, h2⟩ := reads_row w0
  unfold maxLen at h2
  have b1 := wf64 w1
  clear w0 w1
  generalize z0.take len0 = zs at hR hlen
  have HL := Lib.hid hlen.symm; clear hlen
  have hb : Below w.heap.size w w := Below.refl _ _
  by_cases c1 : 20 < len0
  · clear hR
    go_enter Try.func3, Try.ntmps3
    go_wp2_with (go_at_call 9; (with_reducible refine (awake_true _).mono ?_); rintro e w1 ⟨rfl, hb1⟩)
    go_ret
    exact ⟨rfl, hb1⟩
  by_cases c2 : 200 < a1
  · clear hR
    go_enter Try.func3, Try.ntmps3
    go_wp2_with (go_at_call 9; (with_reducible refine (awake_true _).mono ?_); rintro e w1 ⟨rfl, hb1⟩)
    go_ret
    exact ⟨rfl, hb1⟩
  obtain ⟨os, hos⟩ : ∃ os, orderL zs a1 = os := ⟨_, rfl⟩
  have HO := Lib.hid hos
  have hol : os.length ≤ 900 := by
    rw [← hos]; unfold orderL
    split
    · simp
    · rw [out_len]; omega
  obtain ⟨Z, hZ⟩ : ∃ Z, Z = os.length := ⟨_, rfl⟩
  rw [← hZ] at hol
  have HZ := Lib.hid hZ
  clear hos hZ
  go_enter Try.func3, Try.ntmps3
  go_wp2_with (first
    | (go_at_call 9; (with_reducible refine (awake_true _).mono ?_); rintro e w1 ⟨rfl, hb1⟩; have hR := hR.below hb1; have hb := below_step hb hb.size hb1; clear hb1)
    | (go_at_call 11; (with_reducible refine (order_at _ _ _ zs _ os Z _ HL.out hR (by omega) (by omega) HO.out HZ.out).mono ?_); rintro e w2 ⟨A, rfl, hRA, hb1⟩; have hR := hR.below hb1; have hb := below_step hb hb.size hb1; clear hb1)
    | (go_at_call 12; (with_reducible refine (reforder_at _ _ _ zs _ os Z _ HL.out hR (by omega) (by omega) HO.out HZ.out).mono ?_); rintro e w3 ⟨A', cap', rfl, hRA', hb1⟩; have hRA := hRA.below hb1; have hb := below_step hb hb.size hb1; clear hb1)
    | (go_at_call 10; (with_reducible refine (same_at _ _ _ _ _ _ os os _ HZ.out HZ.out hRA hRA' (by omega) (by omega)).mono ?_); rintro e w4 ⟨b, hbt, rfl, hb1⟩; have hb := below_step hb hb.size hb1; obtain rfl := hbt.2 rfl; clear hb1))
  go_ret
  exact ⟨rfl, hb⟩
end Go.Proofs.Ytmeiohmdiklepaa
