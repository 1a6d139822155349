/- A number over and over, in new memory; walked. -/
import Derived.Test.YtjnkcomedcbenaaPClone
namespace Go.Proofs.Ytjnkcomedcbenaa
open Go.RowKit
set_option linter.unusedVariables false

theorem le16 (n : Nat) (h : n ≤ 16) : n = 0 ∨ n = 1 ∨ n = 2 ∨ n = 3 ∨ n = 4 ∨ n = 5 ∨ n = 6 ∨ n = 7 ∨ n = 8 ∨ n = 9 ∨ n = 10 ∨ n = 11 ∨ n = 12 ∨ n = 13 ∨ n = 14 ∨ n = 15 ∨ n = 16 := by omega
set_option maxRecDepth 100000 in
set_option maxHeartbeats 4000000 in
theorem mul64_any (n : Nat) (h : n ≤ 16) (w : World) : Calls Try.prog 59 #[.int .u64 1, .int .u64 (n : Int)] w fun e w' => e = .returned (.tuple #[.int .u64 0, .int .u64 (n : Int)]) ∧ w = w' := by
  rcases le16 n h with rfl | rfl | rfl | rfl | rfl | rfl | rfl | rfl | rfl | rfl | rfl | rfl | rfl | rfl | rfl | rfl | rfl
  all_goals
    go_enter Try.func59, Try.ntmps59
    go_wp2
    go_ret2
    exact ⟨rfl, rfl⟩
set_option maxHeartbeats 1000000 in
theorem mul_any (n : Nat) (h : n ≤ 16) (w : World) : Calls Try.prog 54 #[.int .u64 1, .int .u64 (n : Int)] w fun e w' => e = .returned (.tuple #[.int .u64 0, .int .u64 (n : Int)]) ∧ w = w' := by
  go_enter Try.func54, Try.ntmps54
  go_wp2_with (first
    | (go_at_call 59; (with_reducible refine (mul64_any n h _).mono ?_); rintro r w1 ⟨rfl, rfl⟩)
    | fail)
  go_ret2
  exact ⟨rfl, rfl⟩
/-- The first k of a block's cells are this number. -/
structure Fill (B G n : Nat) (v : Int) (w0 w : World) (k : Nat) (L : List Value) : Prop where
  row : w.heap[G]? = some (.cells L.toArray 3 (0, 0))
  len : L.length = n
  at' : ∀ j, j < k → L[j]? = some (.int .i64 v)
  bel : Below B w0 w
theorem Fill.drewN {B G n k : Nat} {v : Int} {w0 w : World} {L : List Value} (h : Fill B G n v w0 w k L) (q : Nat) : Fill B G n v w0 (w.drewN q) k L := ⟨((below_drewN (Below.refl w.heap.size w) q).block G (lt_of h.row)).trans h.row, h.len, h.at', below_drewN h.bel q⟩
theorem Fill.next {B G n k m : Nat} {v : Int} {w0 w w' : World} {L : List Value} (h : Fill B G n v w0 w k L) (hk : k + m ≤ n) (hr : w'.heap[G]? = some (.cells (splice L k (List.replicate m (.int .i64 v))).toArray 3 (0, 0))) (hb : Below B w0 w') : Fill B G n v w0 w' (k + m) (splice L k (List.replicate m (.int .i64 v))) := by
  have hl := h.len
  refine ⟨hr, by rw [length_splice _ _ _ (by simp; omega)]; exact hl, fun j hj => ?_, hb⟩
  unfold splice
  rcases Nat.lt_or_ge j k with h1 | h1
  · rw [List.getElem?_append_left (by simp; omega), List.getElem?_take, if_pos h1]; exact h.at' j h1
  · rw [List.getElem?_append_right (by simp; omega), List.getElem?_append_left (by simp; omega), List.getElem?_replicate, if_pos (by simp; omega)]
/-- What Repeat answers. -/
def SomeFill (n : Nat) (v : Int) (w : World) (e : Ending) (w' : World) : Prop :=
  e = .returned (.slice (some ⟨w.heap.size, 0, none⟩) n n) ∧ w'.heap[w.heap.size]? = some (.cells (List.replicate n (Value.int .i64 v)).toArray 3 (0, 0)) ∧ Below w.heap.size w w'
theorem Fill.all {B G n : Nat} {v : Int} {w0 w : World} {L : List Value} (h : Fill B G n v w0 w n L) : L = List.replicate n (.int .i64 v) := by
  apply List.ext_getElem? 
  intro j
  rcases Nat.lt_or_ge j n with h1 | h1
  · rw [h.at' j h1, List.getElem?_replicate, if_pos h1]
  · rw [List.getElem?_eq_none (by rw [h.len]; exact h1), List.getElem?_eq_none (by simpa using h1)]
theorem Fill.cell {B G n k : Nat} {v : Int} {w0 w : World} {L : List Value} (h : Fill B G n v w0 w k L) (j : Nat) (hj : j < k) : w.cell? ⟨G, j, none⟩ = some (.int .i64 v) := by
  rw [cell_of h.row, List.getElem?_toArray]; exact h.at' j hj

set_option maxRecDepth 100000 in
theorem slice_lo (b k n : Nat) (h : k < n) (w : World) : (Instr.slice 43 (.slice (some ⟨b, 0, none⟩) n n) (some (.int .i64 (k : Int))) none none).run Try.prog w = .ok (.slice (some ⟨b, k, none⟩) (n - k) (n - k)) w := by
  have e := run_slice_l (P := Try.prog) w 43 (some ⟨b, 0, none⟩) n n Try.underlying43 .i64 (k : Int) (by omega) (by omega)
  rw [e]
  have hq : ¬ n = k := by omega
  simp [sliced, go_sem, hq]
set_option maxRecDepth 100000 in
theorem slice_hi (b k n : Nat) (h : k < n) (w : World) : (Instr.slice 43 (.slice (some ⟨b, 0, none⟩) n n) none (some (.int .i64 (k : Int))) none).run Try.prog w = .ok (.slice (some ⟨b, 0, none⟩) k n) w := by
  have e := run_slice_h (P := Try.prog) w 43 (some ⟨b, 0, none⟩) n n Try.underlying43 .i64 (k : Int) (by omega) (by omega)
  rw [e]
  have hq : ¬ n = 0 := by omega
  simp [sliced, go_sem, hq]
/-- What is copied stands there. -/
def From (W : World) (g o b : Nat) (cs : List Value) : Prop := 0 < cs.length → (some (⟨g, o, none⟩ : Addr)) = some ⟨g, o, none⟩ ∧ ∃ ad, (some (⟨b, 0, none⟩ : Addr)) = some ad ∧ ∀ j u, cs[j]? = some u → W.cell? (ad.add j) = some u
theorem From.get {W : World} {g o b : Nat} {cs : List Value} (h : From W g o b cs) : 0 < cs.length → (some (⟨g, o, none⟩ : Addr)) = some ⟨g, o, none⟩ ∧ ∃ ad, (some (⟨b, 0, none⟩ : Addr)) = some ad ∧ ∀ j u, cs[j]? = some u → W.cell? (ad.add j) = some u := h
theorem From.mk {W : World} {g o b m : Nat} {v : Int} (h : ∀ j, j < m → W.cell? ⟨b, j, none⟩ = some (.int .i64 v)) : From W g o b (List.replicate m (.int .i64 v)) := fun _ => ⟨rfl, _, rfl, fun j u hj => by
  have hjm := (List.getElem?_eq_some_iff.1 hj).1
  rw [List.length_replicate] at hjm
  rw [List.getElem?_replicate, if_pos hjm] at hj
  rw [add_off, ← hj, Nat.zero_add]; exact h j hjm⟩
set_option maxRecDepth 100000 in
set_option maxHeartbeats 4000000 in
theorem repeatP (b n : Nat) (v : Int) (w : World) (hn : n ≤ 16) (hc : w.cell? ⟨b, 0, none⟩ = some (.int .i64 v)) (hb : b < w.heap.size) : Calls Try.prog 48 #[.slice (some ⟨b, 0, none⟩) 1 1, .int .i64 (n : Int)] w (SomeFill n v w) := by
  have hmk := make_ints n w (by omega)
  obtain ⟨L0, hL0⟩ : ∃ L0, L0 = (List.replicate n (0 : Int)).map (Value.int .i64) := ⟨_, rfl⟩
  rw [← hL0] at hmk
  have hF := First.start w (.cells L0.toArray 3)
  have hF0 : Fill w.heap.size w.heap.size n v w (w.alloc (.cells L0.toArray 3)) 0 L0 := ⟨hF.at0, by rw [hL0]; simp, fun j hj => by omega, hF.bel⟩
  have hcc : (w.alloc (.cells L0.toArray 3)).cell? ⟨b, 0, none⟩ = some (.int .i64 v) := (hF.bel.cell (p := ⟨b, 0, none⟩) hb).trans hc
  obtain ⟨W1, hW1⟩ : ∃ W1, W1 = w.alloc (.cells L0.toArray 3) := ⟨_, rfl⟩
  rw [← hW1] at hmk hF0 hcc
  have HF0 := Lib.hid hF0; have HC := Lib.hid hcc; have HN := Lib.hid hn
  have n0 : (0 : Int) ≤ (n : Int) := by omega
  have n1 : (n : Int) ≤ 16 := by omega
  clear hL0 hF hF0 hcc hW1 hc hb
  obtain ⟨m, hm⟩ : ∃ m, m = min 1 n := ⟨_, rfl⟩
  have HM := Lib.hid hm
  have wu : IntKind.u64.wrap (n : Int) = (n : Int) := by rcases le16 n hn with rfl | rfl | rfl | rfl | rfl | rfl | rfl | rfl | rfl | rfl | rfl | rfl | rfl | rfl | rfl | rfl | rfl <;> rfl
  have wi : IntKind.i64.wrap (n : Int) = (n : Int) := IntWalk.i64_in _ (by omega)
  have hgt : decide ((9223372036854775807 : Int) < (n : Int)) = false := by simp; omega
  have hlt0 : decide ((n : Int) < 0) = false := by simp
  have S1 : Hid ((List.replicate m (Value.int .i64 v)).length = Nat.min 1 n) := Lib.hid (by rw [List.length_replicate, HM.out])
  have S2 : Hid (From W1 w.heap.size 0 b (List.replicate m (Value.int .i64 v))) := Lib.hid (From.mk fun j hj => by
    rw [HM.out] at hj
    obtain rfl : j = 0 := by omega
    exact HC.out)
  have S3 : Hid (0 + (List.replicate m (Value.int .i64 v)).length ≤ L0.length) := Lib.hid (by rw [List.length_replicate, HM.out, HF0.out.len]; omega)
  have S4 : Hid (∀ u ∈ List.replicate m (Value.int .i64 v), u.oneCell' = true) := Lib.hid fun u hu => by rw [List.eq_of_mem_replicate hu]; rfl
  clear hm hn
  go_enter Try.func48, Try.ntmps48
  go_wp2_with (first
    | (go_at_call 54; (with_reducible refine (mul_any n HN.out _).mono ?_); rintro r w1 ⟨rfl, rfl⟩)
    | (with_reducible refine wpList_copy_splice rfl _ _ 43 43 rfl 3 Try.underlying43 (by kernel_rfl) (some ⟨w.heap.size, 0, none⟩) (some ⟨b, 0, none⟩) n n 1 1 rfl rfl w.heap.size 0 L0 3 HF0.out.row (List.replicate m (.int .i64 v)) S1.out S2.out.get S3.out S4.out w.heap.size w HF0.out.bel (Nat.le_refl _) ?_; intro w2 hg2 hb2)
    | fail)
  have hf2 := HF0.out.next (m := m) (by have := HM.out; omega) hg2.out hb2
  rw [Nat.zero_add] at hf2
  have HF2 := Lib.hid hf2
  clear hf2 hg2 hb2
  go_loopw [8] (fun s wr => ∃ (k : Nat) (L : List Value), k ≤ n ∧ Hid (k = 0 → n = 0) ∧ s = .int .i64 (k : Int) ∧ Fill w.heap.size w.heap.size n v w wr k L) (fun s _ => n - (intOf s).toNat)
  case atStart => exact ⟨m, _, by have := HM.out; omega, Lib.hid (by have := HM.out; omega), by simp, HF2.out⟩
  case round =>
    obtain ⟨k, L, hkn, hk0, rfl, hf⟩ := hrel
    by_cases hlt : k < n
    · obtain ⟨m2, hm2⟩ : ∃ m2, m2 = min k (n - k) := ⟨_, rfl⟩
      have HM2 := Lib.hid hm2; have HF := Lib.hid hf; have HFd : Hid (Fill w.heap.size w.heap.size n v w wr.drew k L) := Lib.hid (hf.drewN 1)
      have T1 : Hid ((List.replicate m2 (Value.int .i64 v)).length = Nat.min k (n - k)) := Lib.hid (by rw [List.length_replicate, hm2])
      have T2 : Hid (From wr.drew w.heap.size k w.heap.size (List.replicate m2 (Value.int .i64 v))) := Lib.hid (From.mk fun j hj => (hf.drewN 1).cell j (by omega))
      have T3 : Hid (k + (List.replicate m2 (Value.int .i64 v)).length ≤ L.length) := Lib.hid (by rw [List.length_replicate, hm2, hf.len]; omega)
      have T4 : Hid (∀ u ∈ List.replicate m2 (Value.int .i64 v), u.oneCell' = true) := Lib.hid fun u hu => by rw [List.eq_of_mem_replicate hu]; rfl
      have i0 : (0 : Int) ≤ (k : Int) := by omega
      have i1 : (k : Int) < (n : Int) := by omega
      have m0 : (0 : Int) ≤ (m2 : Int) := by omega
      have m1 : (m2 : Int) ≤ 16 := by omega
      have hsum : IntKind.i64.wrap ((k : Int) + (m2 : Int)) = (k : Int) + (m2 : Int) := IntWalk.i64_in _ (by omega)
      have hs1 := slice_lo w.heap.size k n hlt
      have hs2 := slice_hi w.heap.size k n hlt
      clear hm2 hf hkn
      go_wp2_with (fail)
      go_region_law (first
        | (refine step_copy_splice rfl (.tmp 41) (.tmp 44) 43 43 rfl 3 Try.underlying43 (by kernel_rfl) (some ⟨w.heap.size, k, none⟩) (some ⟨w.heap.size, 0, none⟩) (n - k) (n - k) k n (by simp [Act.eval, Act.put]) (by simp [Act.eval, Act.put]) w.heap.size k L 3 HFd.out.row (List.replicate m2 (Value.int .i64 v)) T1.out T2.out.get T3.out T4.out w.heap.size w HFd.out.bel (Nat.le_refl _) ?_; intro w3 hg3 hb3)
        | fail)
      have HF3 := Lib.hid (HF.out.next (m := m2) (by have := HM2.out; omega) hg3.out hb3)
      clear hg3 hb3
      go_simp
      go_roundw
      case rel =>
        iterate apply Exists.intro
        refine And.intro ?_ rfl
        exact ⟨k + m2, _, by have := HM2.out; omega, Lib.hid (by have := hk0.out; omega), by go_num, HF3.out⟩
      case measure => simp [intOf]; have := HM2.out; have := hk0.out; omega
    · obtain rfl : k = n := by omega
      have HF := Lib.hid hf
      have i1 : ¬ (k : Int) < (k : Int) := by omega
      clear hf hkn
      go_wp2
      go_ret
      exact ⟨rfl, by rw [← HF.out.all]; exact HF.out.row, HF.out.bel⟩
end Go.Proofs.Ytjnkcomedcbenaa
