/- The law of how many pieces there are: walked. -/
import Derived.Test.YtemjonahinohmaaNextLaw
import Derived.Test.YtemjonahinohmaaAid
namespace Go.Proofs.Ytemjonahinohmaa
open Go.RowKit
set_option linter.unusedVariables false

theorem sumT_take (zs : List Int) (c : Int) (n : Nat) : ∀ k, k ≤ n → sumT (zs.take n) c k = sumT zs c k
  | 0, _ => rfl
  | k + 1, h => by
    have ih := sumT_take zs c n k (by omega)
    have e : (zs.take n).getD k 0 = zs.getD k 0 := by simp [List.getD, show k < n by omega]
    simp only [sumT, ih, e]

set_option maxHeartbeats 2000000 in
set_option maxRecDepth 100000 in
theorem walkCount (a0 a1 : Int) (A : Option Addr) (len cap : Nat) (zs : List Int) (w : World) (w0 : (Lit.int .i64 a0).wf = true) (w1 : (Lit.int .i64 a1).wf = true) (w2 : IsRow .i64 w A len cap zs) :
    Calls Try.prog 4 #[.int .i64 a0, .int .i64 a1, .slice A len cap] w fun e w' => e = .returned (.bool true) ∧ Below w.heap.size w w' := by
  clear w0 w1
  obtain ⟨hr, hl, h1, h2, _, hwf⟩ := reads_row w2
  clear w2
  obtain ⟨z, hz⟩ : ∃ z, z = zs.take len := ⟨_, rfl⟩
  rw [← hz] at hr hl
  clear hz hwf
  have HB := Below.refl w.heap.size w
  have hlm : len ≤ maxLen := by omega
  by_cases hbig : 100 < len
  · have hb1 : decide ((len : Int) > 100) = true := by simp; omega
    clear hr hl
    go_enter Try.func4, Try.ntmps4
    go_wp2_with (first
      | (go_at_call 8; (with_reducible refine (awake_true _).mono ?_); rintro e w1 ⟨rfl, hb1⟩; have HB := below_then HB hb1; clear hb1)
      | fail)
    go_ret
    exact ⟨rfl, HB⟩
  · have hb1 : decide ((len : Int) > 100) = false := by simp; omega
    have hlen : len ≤ 100 := by omega
    clear hbig
    obtain ⟨r, hcr⟩ : ∃ r, sumT z a1 len = r := ⟨_, rfl⟩
    have hrb := sumT_bd z a1 len
    rw [hcr] at hrb
    obtain ⟨S, C, n, hp, hn⟩ := Pc.mk' a0 a1
    have HP := Lib.hid hp
    have HN := Lib.hid hn
    have HR := Lib.hid hcr
    have HA := Lib.hid (And.intro hr hl)
    have hnn := hp.bd
    have hn1 : n ≤ 1001 := by omega
    clear hp hn hcr hr hl hnn
    go_enter Try.func4, Try.ntmps4
    go_wp2_with (first
      | (go_at_call 8; (with_reducible refine (awake_true _).mono ?_); rintro e w1 ⟨rfl, hb1⟩; have HA := Lib.hid (And.intro (HA.out.1.below hb1) HA.out.2); have HB := below_then HB hb1; clear hb1)
      | fail)
    go_loopw [8, 9] (fun t i wr => ∃ k : Nat, k ≤ len ∧ t = .int .i64 (sumT z a1 k) ∧ i = .int .i64 (k : Int) ∧ w1 = wr) (fun _ i _ => len - (intOf i).toNat)
    case atStart => exact ⟨0, Nat.zero_le _, rfl, rfl, rfl⟩
    case round =>
      obtain ⟨k, hk, rfl, rfl, rfl⟩ := hrel
      by_cases hlt : k < len
      · obtain ⟨b, off, rfl, hbl, hcell⟩ := HA.out.1 (by have := HA.out.2; omega)
        have hcell := hcell k (by have := HA.out.2; omega)
        have hs := sumT_bd z a1 k
        have hw := cntW_bd (z.getD k 0) a1
        have e : sumT z a1 (k + 1) = sumT z a1 k + cntW (z.getD k 0) a1 := rfl
        obtain ⟨q, hq⟩ : ∃ q, q = sumT z a1 k := ⟨_, rfl⟩
        obtain ⟨y, hy⟩ : ∃ y, y = z.getD k 0 := ⟨_, rfl⟩
        obtain ⟨v, hv⟩ : ∃ v, v = cntW y a1 := ⟨_, rfl⟩
        rw [← hy] at hcell hw e
        rw [← hv] at hw e
        rw [← hq] at hs e ⊢
        have HE := Lib.hid e
        have HV := Lib.hid hv.symm
        have hk0 : (0 : Int) ≤ (k : Int) := by omega
        have hk1 : (k : Int) < (len : Int) := by omega
        clear e hy hv hq
        obtain ⟨s0, s1⟩ := hs
        obtain ⟨v0, v1⟩ := hw
        go_wp2_with (first
          | (go_at_call 11; (with_reducible refine (refCount_any _ _ _ HV.out _).mono ?_); rintro r w1 ⟨rfl, rfl⟩)
          | fail)
        go_roundw
        case rel => exact ⟨k + 1, by omega, by rw [HE.out], by go_num, trivial⟩
        case measure => simp [intOf]; omega
      · obtain rfl : k = len := by omega
        rw [HR.out]
        go_wp2_with (first
          | (go_at_call 12; (with_reducible refine (count_any _ _ _ HN.out _).mono ?_); rintro e w2 ⟨rfl, rfl⟩)
          | (go_at_call 11; (with_reducible refine (refCount_any _ _ _ HN.out _).mono ?_); rintro e w2 ⟨rfl, rfl⟩)
          | (go_at_call 13; (with_reducible refine (all_at HP.out HN.out rfl _).mono ?_); rintro e w2 ⟨A2, c2, rfl, _, hb2⟩; have HA := Lib.hid (And.intro (HA.out.1.below hb2) HA.out.2); have HB := below_then HB hb2; clear hb2)
          | (go_at_call 14; (with_reducible refine (most_any _ _ _ _ _ _ _ HA.out.2.symm HA.out.1 (by omega) HR.out).mono ?_); rintro e w2 ⟨rfl, rfl⟩)
          | fail)
        go_ret
        exact ⟨rfl, HB⟩
end Go.Proofs.Ytemjonahinohmaa
