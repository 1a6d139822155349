/- The document's graph: a mutator's root, whether it may have one more, whether it has a slot; walked. -/
import Derived.Test.YtjnkcomedcbenaaGBase
namespace Go.Proofs.Ytjnkcomedcbenaa
open Go.RowKit
set_option linter.unusedVariables false

set_option maxHeartbeats 2000000 in
theorem root_any {P : Nat → Prop} (A : Option Addr) (rn c : Nat) (B : Option Addr) (nn d : Nat) (mo : Int) (g : Gr) (m a : Int) (w : World) (h : GM P w A rn c B nn d mo g) :
    Calls Try.prog 35 #[gV A rn c B nn d mo, .int .i64 m, .int .i64 a] w fun e w' => e = .returned (.int .i64 (gRoot g m a)) ∧ Below w.heap.size w w' := by
  have hrn := h.ra.1
  cases hm : isIn g.roots.length m
  · have e : gRoot g m a = -1 := by unfold gRoot; rw [hm]; simp
    have hno := isIn_no hm
    rw [e]
    by_cases hz : m < 0
    · clear hm hno e h hrn
      go_enter Try.func35, Try.ntmps35
      go_wp2_with (fail)
      go_ret
      exact ⟨rfl, by go_grown⟩
    · have hz0 : 0 ≤ m := by omega
      have ht3 : (rn : Int) ≤ m := by omega
      clear hm hno e h hrn hz
      go_enter Try.func35, Try.ntmps35
      go_wp2_with (fail)
      go_ret
      exact ⟨rfl, by go_grown⟩
  · have hmi := isIn_iff.1 hm
    obtain ⟨i, rfl⟩ : ∃ i : Nat, m = (i : Int) := ⟨m.toNat, by omega⟩
    obtain ⟨b, off, R, q, rfl, hlt, hcell, hrd, hq, hqm, hqn⟩ := h.ra.get i (by omega)
    obtain ⟨l, hl⟩ : ∃ l, l = row g.roots i := ⟨_, rfl⟩
    rw [← hl] at hcell hrd hq
    have hi0 : (0 : Int) ≤ (i : Int) := by omega
    have hi1 : (i : Int) < (rn : Int) := by omega
    have e0 : gRoot g i a = if isIn l.length a = true then num l a.toNat else -1 := by unfold gRoot; rw [hm, Int.toNat_natCast, ← hl]; simp
    rw [e0]
    clear h hm hmi hl e0 hqn hrn
    obtain ⟨n, hn⟩ : ∃ n, n = l.length := ⟨_, rfl⟩
    rw [← hn] at hcell hq ⊢
    have hcell' := (World.cell?_alloc_lt w (.cells #[.slice (some ⟨b, off, none⟩) rn c, .slice B nn d, .int .i64 mo] 28) ⟨b, off + i, none⟩ hlt).trans hcell
    cases ha : isIn n a
    · have hno := isIn_no ha
      rw [if_neg (by simp)]
      have HN := Lib.hid hn
      by_cases hz : a < 0
      · clear ha hno hn hrd
        go_enter Try.func35, Try.ntmps35
        go_wp2_with (fail)
        go_ret
        exact ⟨rfl, by go_grown⟩
      · have hz0 : 0 ≤ a := by omega
        have ht3 : (n : Int) ≤ a := by omega
        clear ha hno hn hz hrd
        go_enter Try.func35, Try.ntmps35
        go_wp2_with (fail)
        go_ret
        exact ⟨rfl, by go_grown⟩
    · have hai := isIn_iff.1 ha
      rw [if_pos rfl]
      obtain ⟨k, rfl⟩ : ∃ k : Nat, a = (k : Int) := ⟨a.toNat, by omega⟩
      rw [Int.toNat_natCast]
      obtain ⟨b2, off2, rfl, hlt2, hc2⟩ := hrd (by omega)
      have hck := hc2 k (by omega)
      obtain ⟨z, hz⟩ : ∃ z, z = num l k := ⟨_, rfl⟩
      rw [show l.getD k 0 = z from hz.symm] at hck
      rw [← hz]
      have hk0 : (0 : Int) ≤ (k : Int) := by omega
      have hk1 : (k : Int) < (n : Int) := by omega
      clear ha hai hn hz hc2
      go_enter Try.func35, Try.ntmps35
      go_wp2_with (fail)
      go_ret
      exact ⟨rfl, by go_grown⟩

set_option maxHeartbeats 2000000 in
theorem room_any {P : Nat → Prop} (A : Option Addr) (rn c : Nat) (B : Option Addr) (nn d : Nat) (mo : Int) (g : Gr) (m : Int) (w : World) (h : GM P w A rn c B nn d mo g) :
    Calls Try.prog 32 #[gV A rn c B nn d mo, .int .i64 m] w fun e w' => e = .returned (.bool (gRoom g m)) ∧ Below w.heap.size w w' := by
  have hrn := h.ra.1
  have hud : ∀ b, (undef = Value.bool b) = False := fun b => eq_false (fun h => by cases h)
  have hud2 : ∀ b, (some undef = some (Value.bool b)) = False := fun b => eq_false (fun h => by cases h)
  cases hm : isIn g.roots.length m
  · have e : gRoom g m = false := by unfold gRoom; rw [hm]; simp
    have hno := isIn_no hm
    rw [e]
    by_cases hz : 0 ≤ m
    · have hz1 : decide (0 ≤ m) = true := by simpa using hz
      have hz2 : decide (m ≥ 0) = true := by simpa using hz
      have ht3 : decide (m < (rn : Int)) = false := by simp; omega
      clear hm hno e h hrn
      go_enter Try.func32, Try.ntmps32
      go_wp2_with (fail)
      go_quiet (fail)
      go_wp2_with (fail)
      go_ret
      exact ⟨rfl, below_drewN (by go_grown) _⟩
    · have hz1 : decide (0 ≤ m) = false := by simpa using hz
      have hz2 : decide (m ≥ 0) = false := by simpa using hz
      clear hm hno e h hrn
      go_enter Try.func32, Try.ntmps32
      go_wp2_with (fail)
      go_quiet (fail)
      go_wp2_with (fail)
      go_ret
      exact ⟨rfl, below_drewN (by go_grown) _⟩
  · have hmi := isIn_iff.1 hm
    obtain ⟨i, rfl⟩ : ∃ i : Nat, m = (i : Int) := ⟨m.toNat, by omega⟩
    obtain ⟨b, off, R, q, rfl, hlt, hcell, hrd, hq, hqm, hqn⟩ := h.ra.get i (by omega)
    obtain ⟨n, hn⟩ : ∃ n, n = (row g.roots i).length := ⟨_, rfl⟩
    rw [← hn] at hcell hq
    have hi0 : (0 : Int) ≤ (i : Int) := by omega
    have hi1 : (i : Int) < (rn : Int) := by omega
    have hz2 : decide ((i : Int) ≥ 0) = true := by simp
    have hz3 : decide (i < rn) = true := by simp; omega
    have e0 : gRoom g i = decide ((n : Int) < mo) := by unfold gRoom; rw [hm, Int.toNat_natCast, ← hn, h.mo]; simp
    rw [e0]
    have hcell' := (World.cell?_alloc_lt w (.cells #[.slice (some ⟨b, off, none⟩) rn c, .slice B nn d, .int .i64 mo] 28) ⟨b, off + i, none⟩ hlt).trans hcell
    clear h hm hmi hn e0 hqn hrn hrd
    cases hb : decide ((n : Int) < mo)
    · go_enter Try.func32, Try.ntmps32
      go_wp2_with (fail)
      go_quiet (fail)
      go_wp2_with (fail)
      go_ret
      exact ⟨rfl, below_drewN (by go_grown) _⟩
    · go_enter Try.func32, Try.ntmps32
      go_wp2_with (fail)
      go_quiet (fail)
      go_wp2_with (fail)
      go_ret
      exact ⟨rfl, below_drewN (by go_grown) _⟩
end Go.Proofs.Ytjnkcomedcbenaa
