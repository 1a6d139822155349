/- Two memories held against each other, walked. -/
import Derived.Test.YtbjhciccpkbmoaaBase
namespace Go.Proofs.Ytbjhciccpkbmoaa
open Go.RowKit
set_option linter.unusedVariables false

def SomeSame (xs ys : List Int) (w : World) (e : Ending) (w' : World) : Prop := ∃ b : Bool, (b = true ↔ xs = ys) ∧ e = .returned (.bool b) ∧ Below w.heap.size w w'

set_option maxHeartbeats 2000000 in
theorem same_any (A A' : Option Addr) (cap cap' n m : Nat) (xs ys : List Int) (w : World) (hn : n = xs.length) (hm : m = ys.length) (h : Reads .u64 w A xs) (h' : Reads .u64 w A' ys) (hb : n ≤ 1000000) (hb' : m ≤ 1000000) :
    Calls Try.prog 25 #[.slice A n cap, .slice A' m cap'] w (SomeSame xs ys w) := by
  have HN := Lib.hid hn; clear hn
  have HM := Lib.hid hm; clear hm
  by_cases hnm : n = m
  · subst hnm
    have HR := Lib.hid h; clear h
    have HR' := Lib.hid h'; clear h'
    go_enter Try.func25, Try.ntmps25
    go_wp2
    go_loopw [5] (fun i wr => ∃ k : Nat, k ≤ n ∧ i = .int .i64 k ∧ (∀ j, j < k → xs.getD j 0 = ys.getD j 0) ∧ Below w.heap.size w wr) (fun i _ => n - (intOf i).toNat)
    case atStart => exact ⟨0, Nat.zero_le _, rfl, fun j h => by omega, Below.refl _ _⟩
    case round =>
      obtain ⟨k, hk, rfl, hs, hbe⟩ := hrel
      have HS := Lib.hid hs; clear hs
      by_cases hlt : k < n
      · obtain ⟨b, off, rfl, hbl, hc⟩ := HR.out (by have := HN.out; omega)
        obtain ⟨b', off', rfl, hbl', hc'⟩ := HR'.out (by have := HM.out; omega)
        have c1 := (hbe.cell (p := ⟨b, off + k, none⟩) hbl).trans (hc k (by have := HN.out; omega))
        have d1 := (hbe.cell (p := ⟨b', off' + k, none⟩) hbl').trans (hc' k (by have := HM.out; omega))
        obtain ⟨p, hp⟩ : ∃ p, p = xs.getD k 0 := ⟨_, rfl⟩
        obtain ⟨q, hq⟩ : ∃ q, q = ys.getD k 0 := ⟨_, rfl⟩
        rw [← hp] at c1
        rw [← hq] at d1
        have HP := Lib.hid hp; clear hp hc
        have HQ := Lib.hid hq; clear hq hc'
        have HB := Lib.hid hbe; clear hbe
        have hk0 : (0 : Int) ≤ (k : Int) := by omega
        have hk1 : (k : Int) < (n : Int) := by omega
        by_cases e : p = q
        · have ht : (p != q) = false := by simp [e]
          have HE := Lib.hid e; clear e
          go_wp2
          go_quiet (fail)
          go_wp2
          go_roundw
          case rel =>
            refine ⟨k + 1, by omega, by go_num, fun j hj => ?_, below_drewN HB.out _⟩
            by_cases e2 : j = k
            · subst e2; rw [← HP.out, ← HQ.out, HE.out]
            · exact HS.out j (by omega)
          case measure => simp [intOf]; omega
        · have ht : (p != q) = true := by simp [e]
          have HE := Lib.hid e; clear e
          go_wp2
          go_quiet (fail)
          go_wp2
          go_ret
          exact ⟨false, ⟨fun h => by simp at h, fun h => absurd (by rw [HP.out, HQ.out, h]) HE.out⟩, rfl, below_drewN HB.out _⟩
      · obtain rfl : k = n := by omega
        go_wp2
        go_ret
        exact ⟨true, ⟨fun _ => ints_ext _ _ (by rw [← HN.out, ← HM.out]) (by rw [← HN.out]; exact HS.out), fun _ => rfl⟩, rfl, hbe⟩
  · have hne : ((n : Int) != (m : Int)) = true := by simp; omega
    have hne2 : (n != m) = true := by simp; omega
    have HE := Lib.hid hnm; clear hnm
    go_enter Try.func25, Try.ntmps25
    go_wp2
    go_ret
    exact ⟨false, ⟨fun h => by simp at h, fun h => absurd (by rw [HN.out, HM.out, h]) HE.out⟩, rfl, Below.refl _ _⟩

/-- Two that are the same. -/
theorem same_yes (A A' : Option Addr) (cap cap' n m : Nat) (l : List Int) (w : World) (hn : n = l.length) (hm : m = l.length) (h : Reads .u64 w A l) (h' : Reads .u64 w A' l) (hb : n ≤ 1000000) :
    Calls Try.prog 25 #[.slice A n cap, .slice A' m cap'] w fun e w' => e = .returned (.bool true) ∧ Below w.heap.size w w' :=
  (same_any A A' cap cap' n m l l w hn hm h h' hb (by omega)).mono fun e w' ⟨b, hbt, he, hw⟩ => ⟨by rw [he, hbt.2 rfl], hw⟩
end Go.Proofs.Ytbjhciccpkbmoaa
