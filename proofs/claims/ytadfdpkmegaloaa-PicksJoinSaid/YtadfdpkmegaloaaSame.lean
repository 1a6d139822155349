/- Picks held against the document's: same, walked. -/
import Derived.Test.YtadfdpkmegaloaaRefDec
namespace Go.Proofs.Ytadfdpkmegaloaa
open Go.RowKit
set_option linter.unusedVariables false

def SomeSame (xs ys : List Pk) (w : World) (e : Ending) (w' : World) : Prop := ∃ b : Bool, (b = true ↔ xs = ys) ∧ e = .returned (.bool b) ∧ Below w.heap.size w w'

set_option maxHeartbeats 2000000 in
theorem same_any (A A' : Option Addr) (cap cap' n m : Nat) (xs ys : List Pk) (w : World) (hn : n = xs.length) (hm : m = ys.length) (h : ReadsP w A xs) (h' : ReadsP w A' ys) (hb : n ≤ 100000) (hb' : m ≤ 100000) :
    Calls Try.prog 10 #[.slice A n cap, .slice A' m cap'] w (SomeSame xs ys w) := by
  have HN := Lib.hid hn; clear hn
  have HM := Lib.hid hm; clear hm
  by_cases hnm : n = m
  · subst hnm
    have HR := Lib.hid h; clear h
    have HR' := Lib.hid h'; clear h'
    go_enter Try.func10, Try.ntmps10
    go_wp2
    go_loopw [5] (fun i wr => ∃ k : Nat, k ≤ n ∧ i = .int .i64 k ∧ (∀ j, j < k → at_ xs j = at_ ys j) ∧ Below w.heap.size w wr) (fun i _ => n - (intOf i).toNat)
    case atStart => exact ⟨0, Nat.zero_le _, rfl, fun j h => by omega, Below.refl _ _⟩
    case round =>
      obtain ⟨k, hk, rfl, hs, hbe⟩ := hrel
      have HS := Lib.hid hs; clear hs
      by_cases hlt : k < n
      · obtain ⟨b, off, rfl, hbl, hc⟩ := HR.out (by have := HN.out; omega)
        obtain ⟨b', off', rfl, hbl', hc'⟩ := HR'.out (by have := HM.out; omega)
        have c1 := (hbe.cell (p := ⟨b, off + k * 2, none⟩) hbl).trans (hc k (by have := HN.out; omega)).1
        have c2 : wr.cell? ⟨b, off + k * 2 + 1, none⟩ = _ := (hbe.cell (p := ⟨b, off + (k * 2 + 1), none⟩) hbl).trans (hc k (by have := HN.out; omega)).2
        have d1 := (hbe.cell (p := ⟨b', off' + k * 2, none⟩) hbl').trans (hc' k (by have := HM.out; omega)).1
        have d2 : wr.cell? ⟨b', off' + k * 2 + 1, none⟩ = _ := (hbe.cell (p := ⟨b', off' + (k * 2 + 1), none⟩) hbl').trans (hc' k (by have := HM.out; omega)).2
        obtain ⟨p, hp⟩ : ∃ p, p = at_ xs k := ⟨_, rfl⟩
        obtain ⟨q, hq⟩ : ∃ q, q = at_ ys k := ⟨_, rfl⟩
        rw [← hp] at c1 c2
        rw [← hq] at d1 d2
        have HP := Lib.hid hp; clear hp hc
        have HQ := Lib.hid hq; clear hq hc'
        obtain ⟨p1, p2⟩ := p
        obtain ⟨q1, q2⟩ := q
        have HB := Lib.hid hbe; clear hbe
        have hk0 : (0 : Int) ≤ (k : Int) := by omega
        have hk1 : (k : Int) < (n : Int) := by omega
        by_cases e : p1 = q1
        · have ht : (p1 != q1) = false := by simp [e]
          have HE := Lib.hid e; clear e
          by_cases e2 : p2 = q2
          · have ht2 : (p2 != q2) = false := by simp [e2]
            have HE2 := Lib.hid e2; clear e2
            go_wp2
            go_quiet (fail)
            go_wp2
            go_roundw
            case rel =>
              refine ⟨k + 1, by omega, by go_num, fun j hj => ?_, below_drewN HB.out _⟩
              by_cases e2 : j = k
              · subst e2; rw [← HP.out, ← HQ.out, HE.out, HE2.out]
              · exact HS.out j (by omega)
            case measure => simp [intOf]; omega
          · have ht2 : (p2 != q2) = true := by simp [e2]
            have HE2 := Lib.hid e2; clear e2
            go_wp2
            go_quiet (fail)
            go_wp2
            go_ret
            exact ⟨false, ⟨fun h => by simp at h, fun h => absurd (by have := HP.out; rw [h, ← HQ.out] at this; simpa using congrArg Prod.snd this) HE2.out⟩, rfl, below_drewN HB.out _⟩
        · have ht : (p1 != q1) = true := by simp [e]
          have HE := Lib.hid e; clear e
          go_wp2
          go_quiet (fail)
          go_wp2
          go_ret
          exact ⟨false, ⟨fun h => by simp at h, fun h => absurd (by have := HP.out; rw [h, ← HQ.out] at this; simpa using congrArg Prod.fst this) HE.out⟩, rfl, below_drewN HB.out _⟩
      · obtain rfl : k = n := by omega
        go_wp2
        go_ret
        exact ⟨true, ⟨fun _ => list_ext (by rw [← HN.out, ← HM.out]) (by rw [← HN.out]; exact HS.out), fun _ => rfl⟩, rfl, hbe⟩
  · have hne : ((n : Int) != (m : Int)) = true := by simp; omega
    have hne2 : (n != m) = true := by simp; omega
    have HE := Lib.hid hnm; clear hnm
    go_enter Try.func10, Try.ntmps10
    go_wp2
    go_ret
    exact ⟨false, ⟨fun h => by simp at h, fun h => absurd (by rw [HN.out, HM.out, h]) HE.out⟩, rfl, Below.refl _ _⟩

/-- Two that are the same. -/
theorem same_yes (A A' : Option Addr) (cap cap' n m : Nat) (l : List Pk) (w : World) (hn : n = l.length) (hm : m = l.length) (h : ReadsP w A l) (h' : ReadsP w A' l) (hb : n ≤ 100000) (hb' : m ≤ 100000) :
    Calls Try.prog 10 #[.slice A n cap, .slice A' m cap'] w fun e w' => e = .returned (.bool true) ∧ Below w.heap.size w w' :=
  (same_any A A' cap cap' n m l l w hn hm h h' hb hb').mono fun e w' ⟨b, hbt, he, hw⟩ => ⟨by rw [he, hbt.2 rfl], hw⟩
end Go.Proofs.Ytadfdpkmegaloaa
