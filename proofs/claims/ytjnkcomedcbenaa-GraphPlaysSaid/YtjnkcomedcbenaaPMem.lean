/- The program's graph in memory, whole; what is read of it, walked. -/
import Derived.Test.YtjnkcomedcbenaaPBase
namespace Go.Proofs.Ytjnkcomedcbenaa
open Go.RowKit
set_option linter.unusedVariables false

/-- A graph of the program's: its block, the block of its roots' slices, whose each block is, the slices themselves. -/
structure PM (w : World) (S R : Nat) (t : Nat → Tag) (rv sv : List Value) (N : Value) (g : Gr) : Prop where
  low : ∀ k, t k ≠ .out → k < w.heap.size
  tS : t S = .self
  tR : t R = .tab
  tN : ∀ k, N.ownBlock = some k → t k = .nodes
  hS : w.heap[S]? = some (.cells #[.int .i64 g.most, .slice (some ⟨R, 0, none⟩) g.roots.length g.roots.length, N] 60 (0, 0))
  hR : w.heap[R]? = some (.cells rv.toArray 43 (0, 0))
  rl : rv.length = g.roots.length
  hN : w.ownsRow 0 43 1 N g.nodes.length sv
  lists : ∀ m, m < g.roots.length → LList w t m (rv.getD m undef) (row g.roots m)
  slots : ∀ v, v < g.nodes.length → LNode w t v (sv.getD v undef) (row g.nodes v)
def rvAt (rv : List Value) (n : Nat) (m : Int) : Value := if isIn n m = true then rv.getD m.toNat undef else .slice none 0 0
section
variable {w w' : World} {S R : Nat} {t : Nat → Tag} {rv sv : List Value} {N : Value} {g : Gr}
theorem PM.kept (h : PM w S R t rv sv N g) (hk : Kept (fun k => t k ≠ .out) w w') : PM w' S R t rv sv N g := by
  have hb : ∀ k, t k ≠ .out → w'.heap[k]? = w.heap[k]? := fun k hk' => hk.block k (h.low k hk') hk'
  refine ⟨fun k hk' => Nat.lt_of_lt_of_le (h.low k hk') hk.size, h.tS, h.tR, h.tN, (hb S (by rw [h.tS]; simp)).trans h.hS, (hb R (by rw [h.tR]; simp)).trans h.hR, h.rl, ⟨h.hN.1, ?_⟩, fun m hm => (h.lists m hm).kept fun k hk' ht => ⟨hb k (by rcases ht with ht | ht <;> rw [ht] <;> simp), rfl⟩, fun v hv => (h.slots v hv).kept fun k hk' ht => ⟨hb k (by rw [ht]; simp), rfl⟩⟩
  rcases h.hN.2 with h2 | ⟨b, cap, cur, rfl, h1, h2, h3⟩
  · exact .inl h2
  · exact .inr ⟨b, cap, cur, rfl, h1, (hb b (by rw [h.tN b rfl]; simp)).trans h2, h3⟩
theorem PM.below (h : PM w S R t rv sv N g) (hb : Below w.heap.size w w') : PM w' S R t rv sv N g := h.kept (Kept.below hb)
theorem PM.c0 (h : PM w S R t rv sv N g) : w.cell? ⟨S, 0, none⟩ = some (.int .i64 g.most) := by rw [cell_of h.hS]; rfl
theorem PM.c1 (h : PM w S R t rv sv N g) : w.cell? ⟨S, 1, none⟩ = some (.slice (some ⟨R, 0, none⟩) g.roots.length g.roots.length) := by rw [cell_of h.hS]; rfl
theorem PM.c2 (h : PM w S R t rv sv N g) : w.cell? ⟨S, 2, none⟩ = some N := by rw [cell_of h.hS]; rfl
theorem PM.fS (h : PM w S R t rv sv N g) (j : Nat) : w.frozen? ⟨S, j, none⟩ = false := frozen_of_row w S j _ _ h.hS
theorem PM.fR (h : PM w S R t rv sv N g) (j : Nat) : w.frozen? ⟨R, j, none⟩ = false := frozen_of_row w R j _ _ h.hR
theorem PM.cR (h : PM w S R t rv sv N g) (i : Nat) (hi : i < g.roots.length) : w.cell? ⟨R, i, none⟩ = some (rv.getD i undef) := by
  rw [cell_of h.hR]
  simp [List.getD, List.getElem?_eq_getElem (show i < rv.length by rw [h.rl]; exact hi)]
theorem PM.svl (h : PM w S R t rv sv N g) : sv.length = g.nodes.length := by have := h.hN.1; omega
theorem PM.nv (h : PM w S R t rv sv N g) : ∃ A c, N = .slice A g.nodes.length c ∧ (0 < g.nodes.length → ∃ b, A = some ⟨b, 0, none⟩ ∧ t b = .nodes ∧ b < w.heap.size ∧ ∀ j, j < g.nodes.length → w.cell? ⟨b, j, none⟩ = some (sv.getD j undef)) := by
  rcases id h.hN.2 with ⟨h1, h2⟩ | ⟨b, cap, cur, rfl, h1, h2, h3, h4, h5, h6⟩
  · exact ⟨none, 0, by rw [h1, h2], fun h0 => by omega⟩
  · refine ⟨_, cap, rfl, fun h0 => ⟨b, rfl, h.tN b rfl, lt_of h2, fun j hj => ?_⟩⟩
    rw [h.hN.cellAt j (by omega), List.getD, List.getElem?_eq_getElem (by rw [h.svl]; exact hj)]; rfl
/-- A mutator's roots, as a slice. -/
theorem PM.rowAt (h : PM w S R t rv sv N g) (m : Int) : RowV (fun k => t k ≠ .out) w (rvAt rv g.roots.length m) (if isIn g.roots.length m = true then row g.roots m.toNat else []) := by
  unfold rvAt
  by_cases e : isIn g.roots.length m = true
  · rw [if_pos e, if_pos e]
    have := isIn_iff.1 e
    exact (h.lists m.toNat (by omega)).rowV.to fun b _ hb => by rcases hb with hb | hb <;> rw [hb] <;> simp
  · rw [if_neg e, if_neg e]; exact RowV.nil _ _
theorem PM.slotAt (h : PM w S R t rv sv N g) (v : Int) : RowV (fun k => t k ≠ .out) w (rvAt sv g.nodes.length v) (if isIn g.nodes.length v = true then row g.nodes v.toNat else []) := by
  unfold rvAt
  by_cases e : isIn g.nodes.length v = true
  · rw [if_pos e, if_pos e]
    have := isIn_iff.1 e
    exact (h.slots v.toNat (by omega)).rowV.to fun b _ hb => by rw [hb]; simp
  · rw [if_neg e, if_neg e]; exact RowV.nil _ _
end

set_option maxHeartbeats 400000 in
theorem has26_any (A : Option Addr) (n c : Nat) (i : Int) (w : World) : Calls Try.prog 49 #[.slice A n c, .int .i64 i] w fun e w' => e = .returned (.bool (isIn n i)) ∧ w = w' := by
  by_cases h0 : 0 ≤ i
  · by_cases h1 : i < (n : Int)
    · have e : isIn n i = true := isIn_iff.2 ⟨h0, h1⟩
      rw [e]; clear e
      go_enter Try.func49, Try.ntmps49
      go_wp2
      go_ret
      exact ⟨rfl, rfl⟩
    · have e : isIn n i = false := by cases h : isIn n i; rfl; exact absurd (isIn_iff.1 h).2 h1
      rw [e]; clear e
      have hd : decide (i < (n : Int)) = false := by simpa using h1
      go_enter Try.func49, Try.ntmps49
      go_wp2
      go_ret
      exact ⟨rfl, rfl⟩
  · have e : isIn n i = false := by cases h : isIn n i; rfl; exact absurd (isIn_iff.1 h).1 h0
    rw [e]; clear e
    have hd : decide (0 ≤ i) = false := by simpa using h0
    go_enter Try.func49, Try.ntmps49
    go_wp2
    go_ret
    exact ⟨rfl, rfl⟩
set_option maxHeartbeats 400000 in
theorem has43_any (A : Option Addr) (n c : Nat) (i : Int) (w : World) : Calls Try.prog 53 #[.slice A n c, .int .i64 i] w fun e w' => e = .returned (.bool (isIn n i)) ∧ w = w' := by
  by_cases h0 : 0 ≤ i
  · by_cases h1 : i < (n : Int)
    · have e : isIn n i = true := isIn_iff.2 ⟨h0, h1⟩
      rw [e]; clear e
      go_enter Try.func53, Try.ntmps53
      go_wp2
      go_ret
      exact ⟨rfl, rfl⟩
    · have e : isIn n i = false := by cases h : isIn n i; rfl; exact absurd (isIn_iff.1 h).2 h1
      rw [e]; clear e
      have hd : decide (i < (n : Int)) = false := by simpa using h1
      go_enter Try.func53, Try.ntmps53
      go_wp2
      go_ret
      exact ⟨rfl, rfl⟩
  · have e : isIn n i = false := by cases h : isIn n i; rfl; exact absurd (isIn_iff.1 h).1 h0
    rw [e]; clear e
    have hd : decide (0 ≤ i) = false := by simpa using h0
    go_enter Try.func53, Try.ntmps53
    go_wp2
    go_ret
    exact ⟨rfl, rfl⟩

section
variable {w : World} {S R : Nat} {t : Nat → Tag} {rv sv : List Value} {N : Value} {g : Gr}
set_option maxHeartbeats 800000 in
theorem rootsOf_any (h : PM w S R t rv sv N g) (m : Int) : Calls Try.prog 43 #[ptr S, .int .i64 m] w fun e w' => e = .returned (rvAt rv g.roots.length m) ∧ w = w' := by
  have c1 := h.c1
  cases hm : isIn g.roots.length m
  · have e : rvAt rv g.roots.length m = .slice none 0 0 := by unfold rvAt; rw [hm]; rfl
    rw [e]
    have HM := Lib.hid hm
    clear h e hm
    go_enter Try.func43, Try.ntmps43
    go_wp2_with (first
      | (go_at_call 49; (with_reducible refine (has26_any _ _ _ _ _).mono ?_); rintro r w1 ⟨rfl, rfl⟩; rw [HM.out])
      | fail)
    go_ret
    exact ⟨rfl, rfl⟩
  · have hmi := isIn_iff.1 hm
    obtain ⟨i, rfl⟩ : ∃ i : Nat, m = (i : Int) := ⟨m.toNat, by omega⟩
    have cR := h.cR i (by omega)
    have e : rvAt rv g.roots.length (i : Int) = rv.getD i undef := by unfold rvAt; rw [hm]; rfl
    rw [e]
    obtain ⟨V, hV⟩ : ∃ V, V = rv.getD i undef := ⟨_, rfl⟩
    rw [← hV] at cR ⊢
    have HM := Lib.hid hm
    have h0 : (0 : Int) ≤ (i : Int) := by omega
    have h1 := hmi.2
    clear h e hm hV hmi
    go_enter Try.func43, Try.ntmps43
    go_wp2_with (first
      | (go_at_call 49; (with_reducible refine (has26_any _ _ _ _ _).mono ?_); rintro r w1 ⟨rfl, rfl⟩; rw [HM.out])
      | fail)
    go_ret
    exact ⟨rfl, rfl⟩
theorem sub_in (v : Int) (h0 : 0 ≤ v) (h1 : v ≤ 1000000) : IntKind.i64.wrap (v - 1) = v - 1 := by rw [IntWalk.i64_in _ (by omega)]
set_option maxHeartbeats 800000 in
theorem slotsOf_any (h : PM w S R t rv sv N g) (v : Int) (h0 : 0 ≤ v) (h1 : v ≤ 1000000) : Calls Try.prog 38 #[ptr S, .int .i64 v] w fun e w' => e = .returned (rvAt sv g.nodes.length (v - 1)) ∧ w = w' := by
  have c2 := h.c2
  obtain ⟨A, c, rfl, hA⟩ := h.nv
  cases hm : isIn g.nodes.length (v - 1)
  · have e : rvAt sv g.nodes.length (v - 1) = .slice none 0 0 := by unfold rvAt; rw [hm]; rfl
    rw [e]
    have HM := Lib.hid hm
    clear h e hm hA
    go_enter Try.func38, Try.ntmps38
    go_wp2_with (first
      | (go_at_call 49; (with_reducible refine (has26_any _ _ _ _ _).mono ?_); rintro r w1 ⟨rfl, rfl⟩; rw [HM.out])
      | fail)
    go_ret
    exact ⟨rfl, rfl⟩
  · have hmi := isIn_iff.1 hm
    obtain ⟨i, hi⟩ : ∃ i : Nat, v - 1 = (i : Int) := ⟨(v - 1).toNat, by omega⟩
    obtain ⟨b, rfl, -, -, hc⟩ := hA (by omega)
    have cR := hc i (by omega)
    have e : rvAt sv g.nodes.length (v - 1) = sv.getD i undef := by unfold rvAt; rw [hm, hi]; rfl
    rw [e]
    obtain ⟨V, hV⟩ : ∃ V, V = sv.getD i undef := ⟨_, rfl⟩
    rw [← hV] at cR ⊢
    have HM := Lib.hid hm
    obtain rfl : v = (i : Int) + 1 := by omega
    have h2 : (i : Int) < g.nodes.length := by omega
    have hs : (i : Int) + 1 - 1 = (i : Int) := by omega
    have h3 : (0 : Int) ≤ (i : Int) := by omega
    rw [hs] at HM
    clear h e hm hV hmi hi hA hc
    go_enter Try.func38, Try.ntmps38
    go_wp2_with (first
      | (go_at_call 49; (with_reducible refine (has26_any _ _ _ _ _).mono ?_); rintro r w1 ⟨rfl, rfl⟩; rw [HM.out])
      | fail)
    go_ret
    exact ⟨rfl, rfl⟩
end
end Go.Proofs.Ytjnkcomedcbenaa
