/- The call of the law of what was handed in. -/
import Derived.Test.YtenjjlopofkkgaaTwo
import Derived.Test.YtenjjlopofkkgaaRef
import Derived.Test.YtenjjlopofkkgaaSame
import Derived.Test.YtenjjlopofkkgaaAid
namespace Go.Proofs.Ytenjjlopofkkgaa
open Go.RowKit
set_option linter.unusedVariables false

/-- All words, in a block that is named. -/
def SomeAll (w : World) (n : Nat) (L : List Int) (e : Ending) (w' : World) : Prop :=
  ∃ X, e = .returned (.slice (some ⟨X, 0, none⟩) n n) ∧ w.heap.size ≤ X ∧ Row w' X L ∧ Below w.heap.size w w'
theorem all_some {S D : Nat} {L : List Int} {c : Int} (n : Nat) (w : World) (h : St w S D L c) (hn : n = L.length) (hl : n ≤ 1000000) : Calls Try.prog 20 #[ptr S] w (SomeAll w n L) :=
  (all_any w h (by omega)).mono fun e w' ⟨he, hr, hb⟩ => ⟨w.heap.size, by rw [he, hn], Nat.le_refl _, hr, hb⟩
theorem Row.readsX {S D X : Nat} {w : World} {L : List Int} (h : Row w X L) (hS : S < X) (hD : D < X) : ReadsX S D w (some ⟨X, 0, none⟩) L := fun _ =>
  ⟨X, 0, rfl, h.lt, by omega, by omega, fun j hj => by rw [Nat.zero_add]; exact h.cell j hj⟩
theorem ld_set (L : List Int) (i : Nat) (v : Int) (h : i < L.length) : ldv (L.set i v) i = v := by
  unfold ldv; rw [in_nat (by simpa using h), if_pos rfl]
  simp [List.getD, h]
theorem get_set (L : List Int) (i : Nat) (v : Int) (h : i < L.length) : (L.set i v).getD i 0 = v := by simp [List.getD, h]

set_option maxHeartbeats 4000000 in
set_option maxRecDepth 100000 in
theorem walkApart (A : Option Addr) (n cap : Nat) (zs : List Int) (a v : Int) (w : World) (hz : IsRow .u64 w A n cap zs) (wa : (Lit.int .u8 a).wf = true) :
    Calls Try.prog 7 #[.slice A n cap, .int .u8 a, .int .u64 v] w fun e w' => e = .returned (.bool true) ∧ Below w.heap.size w w' := by
  obtain ⟨hr, hrl, _, _, _, _⟩ := reads_row hz
  clear hz
  obtain ⟨L, hL⟩ : ∃ L, L = zs.take n := ⟨_, rfl⟩
  rw [← hL] at hr hrl
  have hab : 0 ≤ a ∧ a ≤ 255 := by
    have h := wa
    simp [Lit.wf] at h
    exact ⟨h.1, h.2⟩
  by_cases h60 : 200 < n
  · have h60' : (200 : Int) < (n : Int) := by omega
    clear hr hrl hL wa hab
    go_enter Try.func7, Try.ntmps7
    go_wp2_with (first
      | (go_at_call 9; (with_reducible refine (awake_any _).mono ?_); rintro r w1 ⟨rfl, hb⟩)
      | fail)
    go_ret
    exact ⟨rfl, hb⟩
  by_cases h0 : n = 0
  · subst h0
    clear hr hrl hL wa hab
    go_enter Try.func7, Try.ntmps7
    go_wp2_with (first
      | (go_at_call 9; (with_reducible refine (awake_any _).mono ?_); rintro r w1 ⟨rfl, hb⟩)
      | fail)
    go_ret
    exact ⟨rfl, hb⟩
  have hn0 : 0 < n := by omega
  obtain ⟨t, rfl⟩ : ∃ t : Nat, a = (t : Int) := ⟨a.toNat, by omega⟩
  obtain ⟨j, hj⟩ : ∃ j, j = t % n := ⟨_, rfl⟩
  have hjn : j < n := by rw [hj]; exact Nat.mod_lt _ hn0
  have hjz : (t : Int) % (n : Int) = (j : Int) := by rw [hj, Int.natCast_emod]
  obtain ⟨L', hL'⟩ : ∃ L', L' = L.set j v := ⟨_, rfl⟩
  have HL1 : Hid (n = L'.length) := Lib.hid (by rw [hL', List.length_set]; exact hrl.symm)
  have HL2 : Hid (ldv L' j = v) := Lib.hid (by rw [hL']; exact ld_set L j v (by omega))
  have HL3 : Hid (L'.getD j 0 = v) := Lib.hid (by rw [hL']; exact get_set L j v (by omega))
  have HL4 : Hid (ptv L j v = L') := Lib.hid (by rw [hL']; unfold ptv; rw [in_nat (by omega), if_pos rfl]; simp)
  have HN := Lib.hid hrl.symm
  have HR := Lib.hid hr
  have HJ := Lib.hid hjn
  have e1 : ((n : Int) == 0) = false := by rw [beq_eq_false_iff_ne]; omega
  have e2 : (n == 0) = false := by rw [beq_eq_false_iff_ne]; omega
  have h60' : ¬ (200 : Int) < (n : Int) := by omega
  have hn1 : (n : Int) ≤ 200 := by omega
  have hn2 : n ≤ 1000000 := by omega
  have ht1 : (t : Int) < 256 := by omega
  have hj0 : (0 : Int) ≤ (j : Int) := by omega
  have hj1 : (j : Int) < (n : Int) := by omega
  clear hr hrl hL h0 h60 wa hab hL' hj hjn
  go_enter Try.func7, Try.ntmps7
  go_wp2_with (first
    | (go_at_call 9; (with_reducible refine (awake_any _).mono ?_); rintro r w1 ⟨rfl, hb⟩; have HB := Lib.hid hb; clear hb)
    | (at_builtin; refine append_words rfl _ _ rfl A n cap L rfl rfl HN.out hn0 hn2 (HR.out.below HB.out (Nat.le_refl _)) ?_; intro g cap' w2 hf; have HF := Lib.hid hf; clear hf)
    | (go_at_call 10; (with_reducible refine (new_any _ n cap' L _ HN.out HF.out.reads hn2).mono ?_); rintro r w3 ⟨S, D, rfl, hS, hD, hs, hb⟩; have HK : Hid (Own w.heap.size S D w w3 L 0) := Lib.hid (Own.of_new (below_then HB.out HF.out.2.1) (Nat.le_refl _) hS hD hs hb); have HM := Lib.hid ((HF.out.reads.apart hS hD).upd (Upd.of_below hb)); clear hs hb hS hD)
    | (go_at_call 20; (with_reducible refine (all_some (S := S) (c := 0) n _ HK.out.st HN.out hn2).mono ?_); rintro r w4 ⟨X, rfl, hX, hrow, hb⟩; have HX := Lib.hid (hrow.readsX (Nat.lt_of_lt_of_le HK.out.st.ltS hX) (Nat.lt_of_lt_of_le HK.out.st.row.lt hX)); have HM := Lib.hid (HM.out.upd (Upd.of_below hb)); have HK := Lib.hid (HK.out.step hb); clear hX hrow hb)
    | (go_at_call 13; (with_reducible refine (put_any (S := S) (c := 0) _ _ _ HK.out.st (by decide) (by decide)).mono ?_); rintro r w5 ⟨rfl, hk⟩; rw [HL4.out] at hk; have HX := Lib.hid (HX.out.upd hk.2); have HM := Lib.hid (HM.out.upd hk.2); have HK := Lib.hid (HK.out.left hk); clear hk)
    | (go_at_call 20; (with_reducible refine (all_some (S := S) (c := 0 + 1) n _ HK.out.st HL1.out hn2).mono ?_); rintro r w6 ⟨Y, rfl, hY, hrow, hb⟩; have HY := Lib.hid hrow; have HX := Lib.hid (HX.out.upd (Upd.of_below hb)); have HM := Lib.hid (HM.out.upd (Upd.of_below hb)); have HK := Lib.hid (HK.out.step hb); clear hY hrow hb)
    | (go_at_call 19; (with_reducible refine (same_yes (some ⟨g, 0, none⟩) A cap' cap n n L _ HN.out HN.out HM.out.reads (HR.out.below HK.out.bel (Nat.le_refl _)) hn2).mono ?_); rintro r w7 ⟨rfl, hb⟩; have HY := Lib.hid (HY.out.below hb); have HX := Lib.hid (HX.out.upd (Upd.of_below hb)); have HK := Lib.hid (HK.out.step hb); clear hb)
    | (go_at_call 19; (with_reducible refine (same_yes (some ⟨X, 0, none⟩) A n cap n n L _ HN.out HN.out HX.out.reads (HR.out.below HK.out.bel (Nat.le_refl _)) hn2).mono ?_); rintro r w8 ⟨rfl, hb⟩; have hy := (HY.out.below hb).cell j (by have := HL1.out; have := HJ.out; omega); rw [HL3.out] at hy; have HK := Lib.hid (HK.out.step hb); clear hb)
    | (go_at_call 11; (with_reducible refine (load_any (S := S) (c := 0 + 1) _ _ HK.out.st (by decide) (by decide)).mono ?_); rintro r w9 ⟨rfl, hk⟩; rw [HL2.out]; have HK := Lib.hid (HK.out.left hk); clear hk)
    | fail)
  go_ret
  exact ⟨rfl, HK.out.bel⟩
end Go.Proofs.Ytenjjlopofkkgaa
