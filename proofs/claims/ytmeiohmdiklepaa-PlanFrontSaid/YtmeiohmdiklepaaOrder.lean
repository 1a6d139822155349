/- The program's Order, walked. -/
import Derived.Test.YtmeiohmdiklepaaLined
namespace Go.Proofs.Ytmeiohmdiklepaa
open Go.RowKit
set_option linter.unusedVariables false

def orderL (ps : List Int) (n : Int) : List Int := if ps.length = 0 then [] else outL ps n.toNat
def SomeList (zs : List Int) (w : World) (e : Ending) (w' : World) : Prop := ∃ A, e = .returned (.slice A zs.length zs.length) ∧ Reads w' A zs ∧ Below w.heap.size w w'

theorem next_at (N : Nat) (ps : List Int) (k : Nat) (w : World) (l : List Wt) (h : Line N w l) (hp : l.Perm (tie ps (dueL ps k))) (hh : HeapFrom 0 l) (h0 : 0 < ps.length) (hn : ps.length ≤ 100) (hk : k ≤ 900) :
    Calls Try.prog 18 #[.pointer (some ⟨N+1, 0, none⟩)] w fun e w' => e = .returned (.int .i64 (who ps k)) ∧ w.grownBy w' (some N) ∧ ∃ l', Line N w' l' ∧ l'.Perm (tie ps (dueL ps (k + 1))) ∧ HeapFrom 0 l' := by
  have hl : l.length = ps.length := by rw [hp.length_eq, tie_len]
  have hd := head_is h0 hp hh
  have hw := who_lt ps k h0
  have b := due_bd ps h0 k (who ps k) hw
  have c := bnd_bd (ps.getD (who ps k) 0)
  refine (next_any N w l h (by omega) (by omega) hh ?_ ?_ ?_ ?_).mono ?_
  · rw [hd]; show 0 ≤ (dueL ps k).getD (who ps k) 0; omega
  · rw [hd]; show (dueL ps k).getD (who ps k) 0 ≤ 1000000; omega
  · rw [hd]; show 0 ≤ bnd (ps.getD (who ps k) 0); omega
  · rw [hd]; show bnd (ps.getD (who ps k) 0) ≤ 1000; omega
  · rintro e w' ⟨he, l', r1, r2, r3, r4⟩
    exact ⟨by rw [he, hd]; rfl, r2, l', r1, tie_next h0 hp hh r3, r4⟩

theorem list_ext2 (xs ys : List Int) (h : xs.length = ys.length) (h2 : ∀ j, j < xs.length → xs.getD j 0 = ys.getD j 0) : xs = ys := by
  apply List.ext_getElem h
  intro i h3 h4
  have := h2 i h3
  simpa [List.getD, List.getElem?_eq_getElem h3, List.getElem?_eq_getElem h4] using this

set_option maxHeartbeats 2000000 in
theorem order_any (A : Option Addr) (cap : Nat) (ps : List Int) (n : Int) (w : World) (h : Reads w A ps) (h2 : ps.length ≤ 100) (hn : n ≤ 900) :
    Calls Try.prog 11 #[.slice A ps.length cap, .int .i64 n] w (SomeList (orderL ps n) w) := by
  obtain ⟨L, hL⟩ : ∃ n, n = ps.length := ⟨_, rfl⟩
  by_cases hsmall : n < 1
  · have e : orderL ps n = [] := by unfold orderL outL; rw [show n.toNat = 0 by omega]; simp
    rw [e, ← hL]
    clear e hL
    go_enter Try.func11, Try.ntmps11
    go_wp2
    go_ret
    exact ⟨none, rfl, fun h => by simp at h, Below.refl _ _⟩
  by_cases hz : L = 0
  · have e : orderL ps n = [] := by unfold orderL; rw [if_pos (by omega)]
    rw [e, ← hL, hz]
    clear e hL hz
    go_enter Try.func11, Try.ntmps11
    go_wp2
    go_ret
    exact ⟨none, rfl, fun h => by simp at h, Below.refl _ _⟩
  obtain ⟨m, rfl⟩ : ∃ m : Nat, n = m := ⟨n.toNat, by omega⟩
  have e : orderL ps m = outL ps m := by unfold orderL; rw [if_neg (by omega)]; simp
  rw [e]
  have h0 : 0 < ps.length := by omega
  have hm : 1 ≤ m := by omega
  have hm2 : m ≤ 900 := by omega
  have hl : (ps.length == 0) = false := by rw [beq_eq_false_iff_ne]; omega
  have hl2 : ((ps.length : Int) == 0) = false := by rw [beq_eq_false_iff_ne]; omega
  clear e hz hsmall hL
  obtain ⟨i0, hi, hz0, hz1, hz2⟩ := info_parts info3
  go_enter Try.func11, Try.ntmps11
  go_wp2_with (first
    | (go_at_call 17; (with_reducible refine (lined_any A cap ps _ h h0 h2).mono ?_); rintro e w1 ⟨l, rfl, hLi, hB, hP, hH⟩)
    | (refine wpList_make_full w1 rfl _ _ 22 rfl w1.heap.size 3 i0 (.int .i64 0) 1 Try.underlying22 hi hz0 hz1 .i64 .i64 _ _ m rfl rfl rfl rfl (by rw [hz2]; omega) (by unfold maxLen; omega) (Nat.le_refl _) ?_))
  intro w2 hown hgrow
  have hB2 := hB.grown hgrow hB.size (fun k hk => by cases hk)
  have hL2 : Line w.heap.size w2 l := hLi.keep ((Below.refl _ _).grown hgrow (Nat.le_refl _) (fun k hk => by cases hk))
  have hM := hLi.lt
  obtain ⟨M, hMe⟩ : ∃ M, M = w1.heap.size := ⟨_, rfl⟩
  rw [← hMe] at hown hM ⊢
  have hMlt : M < w2.heap.size := (hown.lt M rfl).2
  have hrow : w2.ownsRow M 3 1 (.slice (some ⟨M, 0, none⟩) m m) m ((List.replicate m (0 : Int)).map (Value.int .i64)) := by simpa [toList_madeCells_one, Value.cells] using hown
  clear hi hz0 hz1 hz2 hown hgrow hLi hMe hl hl2
  go_wp2
  go_loopw [26] (fun v wr => ∃ (k : Nat) (l : List Wt) (B : List Int), v = .int .i64 k ∧ k ≤ m ∧ Line w.heap.size wr l ∧ l.Perm (tie ps (dueL ps k)) ∧ HeapFrom 0 l ∧ Below w.heap.size w wr ∧ wr.ownsRow M 3 1 (.slice (some ⟨M, 0, none⟩) m m) m (B.map (Value.int .i64)) ∧ B.length = m ∧ ∀ j, j < k → B.getD j 0 = ((who ps j : Nat) : Int)) (fun v _ => m - (intOf v).toNat)
  case atStart => exact ⟨0, l, _, rfl, Nat.zero_le _, hL2, hP, hH, hB2, hrow, by simp, fun j hj => by omega⟩
  case round =>
    clear hL2 hP hH hB2 hrow
    obtain ⟨k, l, B, rfl, hk, hL, hP, hH, hB, hrow, hBl, hj⟩ := hrel
    have HJ := Lib.hid hj
    have HL := Lib.hid hBl
    clear hj hBl
    by_cases hkm : k < m
    · go_wp2_with (go_at_call 18; (with_reducible refine (next_at _ ps k _ l hL hP hH h0 h2 (by omega)).mono ?_); rintro e w3 ⟨rfl, hG, l2, hL3, hP3, hH3⟩; have hrow3 := hrow.kept hG (.inr (by simp [Value.ownBlock]; omega)); have hc := (hrow3.cellAt k (by omega)).trans (map_get B k (by have := HL.out; omega)); have hf := hrow3.frozenAt k; have hB3 := hB.grown hG hB.size (fun k hk => by cases hk; exact Nat.le_refl _))
      have hr4 := hrow3.stored k (.int .i64 (who ps k))
      go_roundw
      case rel =>
        refine ⟨k + 1, l2, B.set k (who ps k), by go_num, by omega, ?_, hP3, hH3, hB3.setCell (by show w.heap.size ≤ M; omega) _, ?_, by rw [List.length_set]; exact HL.out, fun j hj => ?_⟩
        · refine ⟨hL3.row.kept hr4.2 (.inr (by simp [Value.ownBlock]; omega)), Nat.lt_of_lt_of_le hL3.lt hr4.2.size, ?_, ?_⟩
          · exact (World.cell?_of_block (hr4.2.block _ hL3.lt (by simp; omega))).trans hL3.c0
          · exact (World.cell?_of_block (hr4.2.block _ hL3.lt (by simp; omega))).trans hL3.c1
        · rw [List.map_set]; exact hr4.1
        · by_cases e : j = k
          · subst e; have := HL.out; simp [List.getD, this, hkm]
          · have := HJ.out j (by omega); simpa [List.getD, List.getElem?_set, Ne.symm e] using this
      case measure => simp [intOf]; omega
    · obtain rfl : k = m := by omega
      go_wp2
      go_ret
      have e : B = outL ps k := list_ext2 _ _ (by rw [out_len]; exact HL.out) (fun j hj => by rw [out_get _ _ _ (by have := HL.out; omega)]; exact HJ.out j (by have := HL.out; omega))
      refine ⟨some ⟨M, 0, none⟩, by rw [out_len]; rfl, fun _ => ⟨M, 0, rfl, (hrow.lt M rfl).2, fun j hj => ?_⟩, hB⟩
      rw [out_len] at hj
      rw [Nat.zero_add, ← e]
      exact (hrow.cellAt j (by omega)).trans (map_get B j (by have := HL.out; omega))
end Go.Proofs.Ytmeiohmdiklepaa
