/- The call of the law of sums. -/
import Derived.Test.YtenjjlopofkkgaaTwo
import Derived.Test.YtenjjlopofkkgaaAddPure
import Derived.Test.YtenjjlopofkkgaaAid
namespace Go.Proofs.Ytenjjlopofkkgaa
open Go.RowKit
set_option linter.unusedVariables false

theorem ld_one' (z : Int) : ldv [z] 0 = z := by simp [ldv, inB]
/-- Two stores of one word each, of the call's own. -/
def Sums (S D E F : Nat) (w0 w : World) (x c y d : Int) : Prop := Two w0.heap.size S D E F w0 w [x] c [y] d
theorem Sums.st1 {S D E F : Nat} {w0 w : World} {x c y d : Int} (h : Sums S D E F w0 w x c y d) : St w S D [x] c := Two.st1 h
theorem Sums.st2 {S D E F : Nat} {w0 w : World} {x c y d : Int} (h : Sums S D E F w0 w x c y d) : St w E F [y] d := Two.st2 h
theorem Sums.bel {S D E F : Nat} {w0 w : World} {x c y d : Int} (h : Sums S D E F w0 w x c y d) : Below w0.heap.size w0 w := Two.bel h
theorem Sums.l1 {S D E F : Nat} {w0 w w' : World} {x c y d x' c' : Int} {L : List Int} (h : Sums S D E F w0 w x c y d) (hL : L = [x']) (k : Left S D L c' w w') : Sums S D E F w0 w' x' c' y d := by
  subst hL; exact Two.left1 h k
theorem Sums.l2 {S D E F : Nat} {w0 w w' : World} {x c y d y' d' : Int} {L : List Int} (h : Sums S D E F w0 w x c y d) (hL : L = [y']) (k : Left E F L d' w w') : Sums S D E F w0 w' x c y' d' := by
  subst hL; exact Two.left2 h k

set_option maxHeartbeats 4000000 in
set_option maxRecDepth 100000 in
theorem walkAdd (A : Option Addr) (n cap : Nat) (zs : List Int) (a : Int) (w : World) (hz : IsRow .u64 w A n cap zs) (wa : (Lit.int .u8 a).wf = true) :
    Calls Try.prog 6 #[.slice A n cap, .int .u8 a] w fun e w' => e = .returned (.bool true) ∧ Below w.heap.size w w' := by
  obtain ⟨hr, hrl, _, _, _, _⟩ := reads_row hz
  clear hz
  obtain ⟨L, hL⟩ : ∃ L, L = zs.take n := ⟨_, rfl⟩
  rw [← hL] at hr hrl
  have hab : 0 ≤ a ∧ a ≤ 255 := by
    have h := wa
    simp [Lit.wf] at h
    exact ⟨h.1, h.2⟩
  by_cases h60 : 60 < n
  · have h60' : (60 : Int) < (n : Int) := by omega
    clear hr hrl hL wa hab
    go_enter Try.func6, Try.ntmps6
    go_wp2_with (first
      | (go_at_call 9; (with_reducible refine (awake_any _).mono ?_); rintro r w1 ⟨rfl, hb⟩)
      | fail)
    go_ret
    exact ⟨rfl, hb⟩
  by_cases h0 : n = 0
  · subst h0
    clear hr hrl hL wa hab
    go_enter Try.func6, Try.ntmps6
    go_wp2_with (first
      | (go_at_call 9; (with_reducible refine (awake_any _).mono ?_); rintro r w1 ⟨rfl, hb⟩)
      | fail)
    go_ret
    exact ⟨rfl, hb⟩
  have hn0 : 0 < n := by omega
  obtain ⟨t, rfl⟩ : ∃ t : Nat, a = (t : Int) := ⟨a.toNat, by omega⟩
  obtain ⟨b, off, rfl, hlt, hc⟩ := hr (by omega)
  have HC : Hid (∀ w1, Below w.heap.size w w1 → ∀ j, j < n → w1.cell? ⟨b, off + j, none⟩ = some (.int .u64 (L.getD j 0))) :=
    Lib.hid fun w1 hb j hj => (hb.cell (p := ⟨b, off + j, none⟩) hlt).trans (hc j (by omega))
  have HT := Lib.hid (sum_turn (fun i => L.getD i 0) n hn0 t)
  have e1 : ((n : Int) == 0) = false := by rw [beq_eq_false_iff_ne]; omega
  have e2 : (n == 0) = false := by rw [beq_eq_false_iff_ne]; omega
  have h60' : ¬ (60 : Int) < (n : Int) := by omega
  have hn1 : (n : Int) ≤ 60 := by omega
  have ht1 : (t : Int) < 256 := by omega
  have HN := Lib.hid hn0
  clear hc hlt hr hrl hL h0 h60 wa hab hn0
  go_enter Try.func6, Try.ntmps6
  go_wp2_with (first
    | (go_at_call 9; (with_reducible refine (awake_any _).mono ?_); rintro r w1 ⟨rfl, hb⟩; have HB := Lib.hid hb; clear hb)
    | (go_at_call 10; (with_reducible refine (new_any _ 1 1 [0] _ rfl (reads_lit1 _ _) (by decide)).mono ?_); rintro r w2 ⟨S, D, rfl, hS, hD, hs, hb⟩; have HK : Hid (Own w.heap.size S D w w2 [0] 0) := Lib.hid (Own.of_new (below_alloc0 HB.out _) (Nat.le_refl _) hS hD hs hb); clear hs hb hS hD HB)
    | (go_at_call 10; (with_reducible refine (new_any _ 1 1 [0] _ rfl (reads_lit1 _ _) (by decide)).mono ?_); rintro r w3 ⟨E, F, rfl, hS, hD, hs, hb⟩; have HQ : Hid (Sums S D E F w w3 0 0 0 0) := Lib.hid (Two.of_new (HK.out.step (below_alloc0 (Below.refl _ _) _)) hS hD hs hb); clear hs hb hS hD HK)
    | fail)
  go_loopw [8, 9] (fun sm i wr => ∃ k : Nat, k ≤ n ∧ i = .int .i64 (k : Int) ∧ sm = .int .u64 (sumTo (fun i => L.getD i 0) k) ∧ Sums S D E F w wr (sumTo (fun i => L.getD i 0) k) k (sumTo (fun i => L.getD ((i + t) % n) 0) k) k) (fun _ i _ => n - (intOf i).toNat)
  case atStart => exact ⟨0, Nat.zero_le _, rfl, rfl, HQ.out⟩
  case round =>
    clear HQ
    obtain ⟨k, hk, rfl, rfl, hq⟩ := hrel
    by_cases hlt : k < n
    · obtain ⟨j, hj⟩ : ∃ j, j = (k + t) % n := ⟨_, rfl⟩
      have hjn : j < n := by rw [hj]; exact Nat.mod_lt _ HN.out
      have hjz : ((k : Int) + (t : Int)) % (n : Int) = (j : Int) := by rw [hj, Int.natCast_emod, Int.natCast_add]
      obtain ⟨x, hx⟩ : ∃ x, x = sumTo (fun i => L.getD i 0) k := ⟨_, rfl⟩
      obtain ⟨y, hy⟩ : ∃ y, y = sumTo (fun i => L.getD ((i + t) % n) 0) k := ⟨_, rfl⟩
      obtain ⟨z, hz⟩ : ∃ z, z = L.getD k 0 := ⟨_, rfl⟩
      obtain ⟨u, hu⟩ : ∃ u, u = L.getD j 0 := ⟨_, rfl⟩
      obtain ⟨x', hx'⟩ : ∃ x', x' = IntKind.u64.wrap (x + z) := ⟨_, rfl⟩
      have HX : Hid (sumTo (fun i => L.getD i 0) (k + 1) = x') := Lib.hid (by rw [hx', hx, hz]; rfl)
      have HY : Hid (sumTo (fun i => L.getD ((i + t) % n) 0) (k + 1) = IntKind.u64.wrap (y + u)) := Lib.hid (by rw [hy, hu, hj]; rfl)
      rw [← hx, ← hy] at hq
      rw [← hx]
      have HK := Lib.hid hq
      have HC2 : Hid (∀ w1, Below w.heap.size w w1 → w1.cell? ⟨b, off + k, none⟩ = some (.int .u64 z) ∧ w1.cell? ⟨b, off + j, none⟩ = some (.int .u64 u)) :=
        Lib.hid fun w1 hb => ⟨by rw [hz]; exact HC.out w1 hb k hlt, by rw [hu]; exact HC.out w1 hb j hjn⟩
      obtain ⟨c1, c2⟩ := HC2.out _ hq.bel
      have HX' := Lib.hid hx'
      have hxw := hx'.symm
      have hk0 : (0 : Int) ≤ (k : Int) := by omega
      have hk1 : (k : Int) < (n : Int) := by omega
      have hj0 : (0 : Int) ≤ (j : Int) := by omega
      have hj1 : (j : Int) < (n : Int) := by omega
      have hkc : (k : Int) ≤ 1000000000 := by omega
      clear hj hjn hx hy hz hu hx' hq hlt
      go_wp2_with (first
        | (go_at_call 18; (with_reducible refine (add_any (S := S) (c := k) 0 z _ HK.out.st1 hk0 hkc).mono ?_); rintro r w4 ⟨rfl, hkk⟩; rw [ld_one']; have HK2 := Lib.hid (HK.out.l1 ((adv_one _ _).trans (by rw [← HX'.out])) hkk); clear hkk c1 c2; obtain ⟨c1, c2⟩ := HC2.out _ HK2.out.bel)
        | (go_at_call 18; (with_reducible refine (add_any (S := E) (c := k) 0 u _ HK2.out.st2 hk0 hkc).mono ?_); rintro r w5 ⟨rfl, hkk⟩; have HK3 := Lib.hid (HK2.out.l2 (adv_one _ _) hkk); clear hkk c1 c2)
        | fail)
      go_roundw
      case rel => exact ⟨k + 1, by omega, by go_num, by rw [HX.out], by rw [HX.out, HY.out]; exact HK3.out⟩
      case measure => simp [intOf]; omega
    · obtain rfl : k = n := by omega
      obtain ⟨x, hx⟩ : ∃ x, x = sumTo (fun i => L.getD i 0) k := ⟨_, rfl⟩
      have hT := HT.out
      rw [hT, ← hx] at hq
      rw [← hx]
      have hk0 : (0 : Int) ≤ (k : Int) := by omega
      have hkc : (k : Int) ≤ 1000000000 := by omega
      have HK := Lib.hid hq
      clear hx hq hT hlt HT
      go_wp2_with (first
        | (go_at_call 11; (with_reducible refine (load_any (S := S) (L := [x]) (c := k) 0 _ HK.out.st1 hk0 hkc).mono ?_); rintro r w4 ⟨rfl, hkk⟩; rw [ld_one']; have HK := Lib.hid (HK.out.l1 rfl hkk); clear hkk)
        | (go_at_call 11; (with_reducible refine (load_any (S := E) (L := [x]) (c := k) 0 _ HK.out.st2 hk0 hkc).mono ?_); rintro r w5 ⟨rfl, hkk⟩; rw [ld_one']; have HK := Lib.hid (HK.out.l2 rfl hkk); clear hkk)
        | fail)
      go_ret
      exact ⟨rfl, HK.out.bel⟩
end Go.Proofs.Ytenjjlopofkkgaa
