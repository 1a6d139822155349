/- The call of the law of two swaps. -/
import Derived.Test.YtenjjlopofkkgaaAwake
namespace Go.Proofs.Ytenjjlopofkkgaa
open Go.RowKit
set_option linter.unusedVariables false

theorem sw_is (z o : Int) (h : z = o) : swB [z] 0 o = true := by subst h; simp [swB, inB]
theorem sw_no (z o : Int) (h : z ≠ o) : swB [z] 0 o = false := by simp [swB, inB]; exact h
theorem swv_is (z o v : Int) (h : z = o) : swv [z] 0 o v = [v] := by unfold swv; rw [sw_is z o h]; rfl
theorem swv_no (z o v : Int) (h : z ≠ o) : swv [z] 0 o v = [z] := by unfold swv; rw [sw_no z o h]; rfl
theorem sw_out (z o : Int) : swB [z] 1 o = false := by simp [swB, inB]
theorem swv_out (z o v : Int) : swv [z] 1 o v = [z] := by unfold swv; rw [sw_out]; rfl
theorem ld_one (z : Int) : ldv [z] 0 = z := by simp [ldv, inB]

theorem pick_true (x y : Int) (w : World) : Calls Try.prog 23 #[.bool true, .int .u64 x, .int .u64 y] w fun e w' => e = .returned (.int .u64 x) ∧ w = w' := by
  go_enter Try.func23, Try.ntmps23
  go_wp2
  go_ret
  exact ⟨rfl, rfl⟩
theorem pick_false (x y : Int) (w : World) : Calls Try.prog 23 #[.bool false, .int .u64 x, .int .u64 y] w fun e w' => e = .returned (.int .u64 y) ∧ w = w' := by
  go_enter Try.func23, Try.ntmps23
  go_wp2
  go_ret
  exact ⟨rfl, rfl⟩

/-- A store of one word, of the call's own. -/
def One (S D : Nat) (w0 w : World) (z c : Int) : Prop := Own w0.heap.size S D w0 w [z] c
theorem One.st {S D : Nat} {w0 w : World} {z c : Int} (h : One S D w0 w z c) : St w S D [z] c := Own.st h
theorem One.bel {S D : Nat} {w0 w : World} {z c : Int} (h : One S D w0 w z c) : Below w0.heap.size w0 w := Own.bel h
theorem One.left {S D : Nat} {w0 w w' : World} {z x c d : Int} {L : List Int} (h : One S D w0 w z c) (hL : L = [x]) (k : Left S D L d w w') : One S D w0 w' x d := by
  subst hL; exact Own.left h k

set_option maxHeartbeats 4000000 in
theorem walkSwap (a b c : Int) (w : World) (wa : (Lit.int .u64 a).wf = true) (wb : (Lit.int .u64 b).wf = true) (wc : (Lit.int .u64 c).wf = true) :
    Calls Try.prog 5 #[.int .u64 a, .int .u64 b, .int .u64 c] w fun e w' => e = .returned (.bool true) ∧ Below w.heap.size w w' := by
  clear wa wb wc
  by_cases hab : b = a
  · subst hab
    go_enter Try.func5, Try.ntmps5
    go_wp2_with (first
      | (go_at_call 9; (with_reducible refine (awake_any _).mono ?_); rintro r w1 ⟨rfl, hb⟩; have HB := Lib.hid hb; clear hb)
      | (go_at_call 10; (with_reducible refine (new_any _ 1 1 [b] _ rfl (reads_lit1 _ _) (by decide)).mono ?_); rintro r w2 ⟨S, D, rfl, hS, hD, hs, hb⟩; have HK : Hid (One S D w w2 b 0) := Lib.hid (Own.of_new (below_alloc0 HB.out _) (Nat.le_refl _) hS hD hs hb); clear hs hb hS hD)
      | (go_at_call 16; (with_reducible refine (swap_any (L := [b]) (c := 0) 0 b b _ HK.out.st (by decide) (by decide)).mono ?_); rintro r w3 ⟨rfl, hk⟩; rw [sw_is b b rfl]; have HK := Lib.hid (HK.out.left (swv_is b b b rfl) hk); clear hk)
      | (go_at_call 16; (with_reducible refine (swap_any (L := [b]) (c := 1) 0 b c _ HK.out.st (by decide) (by decide)).mono ?_); rintro r w4 ⟨rfl, hk⟩; rw [sw_is b b rfl]; have HK := Lib.hid (HK.out.left (swv_is b b c rfl) hk); clear hk)
      | (go_at_call 11; (with_reducible refine (load_any (L := [c]) (c := 2) 0 _ HK.out.st (by decide) (by decide)).mono ?_); rintro r w5 ⟨rfl, hk⟩; rw [ld_one]; have HK := Lib.hid (HK.out.left rfl hk); clear hk)
      | (go_at_call 16; (with_reducible refine (swap_any (L := [c]) (c := 3) 0 c b _ HK.out.st (by decide) (by decide)).mono ?_); rintro r w6 ⟨rfl, hk⟩; rw [sw_is c c rfl]; have HK := Lib.hid (HK.out.left (swv_is c c b rfl) hk); clear hk)
      | (go_at_call 16; (with_reducible refine (swap_any (L := [b]) (c := 4) 1 0 b _ HK.out.st (by decide) (by decide)).mono ?_); rintro r w7 ⟨rfl, hk⟩; rw [sw_out]; have HK := Lib.hid (HK.out.left (swv_out b 0 b) hk); clear hk)
      | (go_at_call 11; (with_reducible refine (load_any (L := [b]) (c := 5) 0 _ HK.out.st (by decide) (by decide)).mono ?_); rintro r w8 ⟨rfl, hk⟩; rw [ld_one]; have HK := Lib.hid (HK.out.left rfl hk); clear hk)
      | (go_at_call 23; (with_reducible refine (pick_true _ _ _).mono ?_); rintro r w9 ⟨rfl, rfl⟩)
      | fail)
    go_ret
    exact ⟨rfl, HK.out.bel⟩
  · have hne : (a == b) = false := by simp; exact fun h => hab h.symm
    have HAB := Lib.hid hab; clear hab
    go_enter Try.func5, Try.ntmps5
    go_wp2_with (first
      | (go_at_call 9; (with_reducible refine (awake_any _).mono ?_); rintro r w1 ⟨rfl, hb⟩; have HB := Lib.hid hb; clear hb)
      | (go_at_call 10; (with_reducible refine (new_any _ 1 1 [a] _ rfl (reads_lit1 _ _) (by decide)).mono ?_); rintro r w2 ⟨S, D, rfl, hS, hD, hs, hb⟩; have HK : Hid (One S D w w2 a 0) := Lib.hid (Own.of_new (below_alloc0 HB.out _) (Nat.le_refl _) hS hD hs hb); clear hs hb hS hD)
      | (go_at_call 16; (with_reducible refine (swap_any (L := [a]) (c := 0) 0 a b _ HK.out.st (by decide) (by decide)).mono ?_); rintro r w3 ⟨rfl, hk⟩; rw [sw_is a a rfl]; have HK := Lib.hid (HK.out.left (swv_is a a b rfl) hk); clear hk)
      | (go_at_call 16; (with_reducible refine (swap_any (L := [b]) (c := 1) 0 a c _ HK.out.st (by decide) (by decide)).mono ?_); rintro r w4 ⟨rfl, hk⟩; rw [sw_no b a HAB.out]; have HK := Lib.hid (HK.out.left (swv_no b a c HAB.out) hk); clear hk)
      | (go_at_call 11; (with_reducible refine (load_any (L := [b]) (c := 2) 0 _ HK.out.st (by decide) (by decide)).mono ?_); rintro r w5 ⟨rfl, hk⟩; rw [ld_one]; have HK := Lib.hid (HK.out.left rfl hk); clear hk)
      | (go_at_call 16; (with_reducible refine (swap_any (L := [b]) (c := 3) 0 b a _ HK.out.st (by decide) (by decide)).mono ?_); rintro r w6 ⟨rfl, hk⟩; rw [sw_is b b rfl]; have HK := Lib.hid (HK.out.left (swv_is b b a rfl) hk); clear hk)
      | (go_at_call 16; (with_reducible refine (swap_any (L := [a]) (c := 4) 1 0 b _ HK.out.st (by decide) (by decide)).mono ?_); rintro r w7 ⟨rfl, hk⟩; rw [sw_out]; have HK := Lib.hid (HK.out.left (swv_out a 0 b) hk); clear hk)
      | (go_at_call 11; (with_reducible refine (load_any (L := [a]) (c := 5) 0 _ HK.out.st (by decide) (by decide)).mono ?_); rintro r w8 ⟨rfl, hk⟩; rw [ld_one]; have HK := Lib.hid (HK.out.left rfl hk); clear hk)
      | (go_at_call 23; (with_reducible refine (pick_false _ _ _).mono ?_); rintro r w9 ⟨rfl, rfl⟩)
      | fail)
    go_ret
    exact ⟨rfl, HK.out.bel⟩
end Go.Proofs.Ytenjjlopofkkgaa
