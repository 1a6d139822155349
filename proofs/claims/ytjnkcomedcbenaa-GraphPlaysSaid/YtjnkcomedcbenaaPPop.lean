/- The program's graph: what an operation leaves; a root dropped; walked. -/
import Derived.Test.YtjnkcomedcbenaaPRead
import Derived.Test.YtjnkcomedcbenaaGPop
namespace Go.Proofs.Ytjnkcomedcbenaa
open Go.RowKit
set_option linter.unusedVariables false

/-- What an operation leaves: the graph, and all blocks but its own as they were. -/
def SomeP (S R : Nat) (t : Nat → Tag) (g' : Gr) (r : Value) (w : World) (e : Ending) (w' : World) : Prop :=
  ∃ t' rv' sv' N', e = .returned r ∧ PM w' S R t' rv' sv' N' g' ∧ UpdF (fun k => t k ≠ .out) w w' ∧ (∀ k, t k ≠ .out → t' k = t k) ∧ ∀ k, t' k ≠ .out → t k ≠ .out ∨ w.heap.size ≤ k
section
variable {w w1 w' : World} {S R : Nat} {t : Nat → Tag} {rv sv : List Value} {N : Value} {g g' : Gr}
theorem UpdF.refl (F : Nat → Prop) (w : World) : UpdF F w w := ⟨rfl, rfl, rfl, Nat.le_refl _, fun _ _ _ => rfl⟩
theorem UpdF.ofBelow {F : Nat → Prop} (h : Below w.heap.size w w') : UpdF F w w' := ⟨h.os, h.tape, h.output, h.size, fun k hk _ => h.block k hk⟩
theorem someP_same (h : PM w S R t rv sv N g) {r : Value} (hb : Below w.heap.size w w') : SomeP S R t g r w (.returned r) w' :=
  ⟨t, rv, sv, N, rfl, h.below hb, UpdF.ofBelow hb, fun _ _ => rfl, fun k hk => .inl hk⟩
theorem someP_pre {r : Value} {e : Ending} (hb : Below w.heap.size w w1) (hs : SomeP S R t g' r w1 e w') : SomeP S R t g' r w e w' := by
  obtain ⟨t', rv', sv', N', he, hp, hu, h1, h2⟩ := hs
  exact ⟨t', rv', sv', N', he, hp, ⟨hu.os.trans hb.os, hu.tape.trans hb.tape, hu.output.trans hb.output, Nat.le_trans hb.size hu.size, fun k hk hn => (hu.block k (Nat.lt_of_lt_of_le hk hb.size) hn).trans (hb.block k hk)⟩, h1, fun k hk => (h2 k hk).imp id fun h => Nat.le_trans hb.size h⟩
theorem someP_ret {r r' : Value} {e e' : Ending} (hs : SomeP S R t g' r w e w') (he : e' = .returned r') : SomeP S R t g' r' w e' w' := by
  obtain ⟨t', rv', sv', N', -, h⟩ := hs
  exact ⟨t', rv', sv', N', he, h⟩
/-- One mutator's slice changed. -/
theorem PM.upR (h : PM w S R t rv sv N g) {i : Nat} (hi : i < g.roots.length) {u : Value} {zs : List Int} (hl : LList w t i u zs) (hsz : w.heap.size ≤ w'.heap.size)
    (hR : w'.heap[R]? = some (.cells (rv.set i u).toArray 43 (0, 0))) (hk : ∀ k, k < w.heap.size → k ≠ R → w'.heap[k]? = w.heap[k]?) : PM w' S R t (rv.set i u) sv N ⟨g.roots.set i zs, g.nodes, g.most⟩ := by
  have hb : ∀ k, t k ≠ .out → t k ≠ .tab → w'.heap[k]? = w.heap[k]? := fun k h1 h2 => hk k (h.low k h1) (fun e => h2 (e ▸ h.tR))
  have keepL : ∀ {m u zs}, LList w t m u zs → LList w' t m u zs := fun hL => hL.kept fun k hk' ht => ⟨hb k (by rcases ht with ht | ht <;> rw [ht] <;> simp) (by rcases ht with ht | ht <;> rw [ht] <;> simp), rfl⟩
  refine ⟨fun k hk' => Nat.lt_of_lt_of_le (h.low k hk') hsz, h.tS, h.tR, h.tN, ?_, hR, by simp [h.rl], ⟨h.hN.1, ?_⟩, fun m hm => ?_, fun v hv => (h.slots v hv).kept fun k hk' ht => ⟨hb k (by rw [ht]; simp) (by rw [ht]; simp), rfl⟩⟩
  · rw [hb S (by rw [h.tS]; simp) (by rw [h.tS]; simp), h.hS]; simp
  · rcases h.hN.2 with h2 | ⟨b, cap, cur, rfl, h1, h2, h3⟩
    · exact .inl h2
    · exact .inr ⟨b, cap, cur, rfl, h1, (hb b (by rw [h.tN b rfl]; simp) (by rw [h.tN b rfl]; simp)).trans h2, h3⟩
  · simp only [List.length_set] at hm
    simp only
    rw [row_set]
    by_cases e : i = m
    · subst e
      rw [if_pos ⟨rfl, hm⟩, List.getD, List.getElem?_set, if_pos rfl, if_pos (by rw [h.rl]; exact hm)]
      exact keepL hl
    · rw [if_neg (fun h => e h.1), List.getD, List.getElem?_set, if_neg e]
      exact keepL (h.lists m hm)
theorem PM.upR_set (h : PM w S R t rv sv N g) {i : Nat} (hi : i < g.roots.length) {u : Value} {zs : List Int} (hl : LList w t i u zs) (n n2 : Nat) : PM (((w.drewN n).setCell ⟨R, i, none⟩ u).drewN n2) S R t (rv.set i u) sv N ⟨g.roots.set i zs, g.nodes, g.most⟩ ∧ UpdF (fun k => t k ≠ .out) w (((w.drewN n).setCell ⟨R, i, none⟩ u).drewN n2) := by
  have hb := below_drewN (Below.refl w.heap.size w) n
  have hd := h.below hb
  have hb2 := below_drewN (Below.refl ((w.drewN n).setCell ⟨R, i, none⟩ u).heap.size ((w.drewN n).setCell ⟨R, i, none⟩ u)) n2
  have hsz : w.heap.size ≤ ((w.drewN n).setCell ⟨R, i, none⟩ u).heap.size := by simp
  have hne : ∀ k, k < w.heap.size → k ≠ R → (((w.drewN n).setCell ⟨R, i, none⟩ u).drewN n2).heap[k]? = w.heap[k]? := fun k hk hn => (hb2.block k (Nat.lt_of_lt_of_le hk hsz)).trans ((heap_setCell_other _ _ k u hn).trans (hb.block k hk))
  refine ⟨h.upR hi hl (Nat.le_trans hsz hb2.size) ?_ hne, ⟨?_, ?_, ?_, Nat.le_trans hsz hb2.size, fun k hk hn => hne k hk fun e => hn (by rw [e, h.tR]; simp)⟩⟩
  · rw [hb2.block R (Nat.lt_of_lt_of_le (lt_of h.hR) hsz), heap_setCell_same _ _ _ _ _ _ hd.hR]
    simp
  · exact hb2.os.trans hb.os
  · exact hb2.tape.trans hb.tape
  · exact hb2.output.trans hb.output
theorem LList.drop {m p c : Nat} {A : Option Addr} {zs : List Int} (h : LList w t m (.slice A zs.length c) zs) (hp : zs.length = p + 1) : ∃ b off, A = some ⟨b, off, none⟩ ∧ p + 1 ≤ c ∧ LList w t m (.slice A p c) zs.dropLast := by
  have hdl : zs.dropLast.length = p := by simp [hp]
  rcases h with ⟨h1, h2⟩ | ⟨b, cur, h1, h2, h3, h4, h5, h6⟩
  · rcases id h1.2 with ⟨h3, h4⟩ | ⟨b, cap, cur, h3, h4, h5, h6, h7, h8, h9⟩
    · omega
    · cases h3
      refine ⟨b, 0, rfl, by omega, .inl ⟨⟨by simp, .inr ⟨b, c, cur, by rw [hdl], Nat.zero_le _, h5, by omega, h7, h8, ?_⟩⟩, h2⟩⟩
      have e : (zs.dropLast.map (Value.int .i64)) = (zs.map (Value.int .i64)).take p := by
        rw [List.dropLast_eq_take, List.map_take, hp]; rfl
      rw [e, ← h9, List.take_take]
      congr 1
      rw [hdl, hp]; omega
  · cases h1
    refine ⟨b, m, rfl, by omega, .inr ⟨b, cur, by rw [hdl], h2, h3, by omega, h5, fun j hj => ?_⟩⟩
    omega

set_option maxHeartbeats 1600000 in
theorem popP (h : PM w S R t rv sv N g) (hmo : g.most ≤ 1000) (hk : Ok g) (m : Int) : Calls Try.prog 25 #[ptr S, .int .i64 m] w (SomeP S R t (gPop g m).1 (.bool (gPop g m).2) w) := by
  have H := Lib.hid h
  cases hm : isIn g.roots.length m
  · have e : gPop g m = (g, false) := by unfold gPop; rw [hm]; simp
    have hv : rvAt rv g.roots.length m = .slice none 0 0 := by unfold rvAt; rw [hm]; rfl
    rw [e]
    have HV := Lib.hid hv
    clear h hm e hv
    go_enter Try.func25, Try.ntmps25
    go_wp2_with (first
      | (go_at_call 43; (with_reducible refine (rootsOf_any H.out m).mono ?_); rintro r w1 ⟨rfl, rfl⟩; rw [HV.out])
      | fail)
    go_ret
    exact someP_same H.out (Below.refl _ _)
  · have hmi := isIn_iff.1 hm
    obtain ⟨i, rfl⟩ : ∃ i : Nat, m = (i : Int) := ⟨m.toNat, by omega⟩
    have hil : i < g.roots.length := by omega
    obtain ⟨A, c, hA, -⟩ := (h.lists i hil).rowV
    have hL := h.lists i hil
    rw [hA] at hL
    have hv : rvAt rv g.roots.length (i : Int) = .slice A (row g.roots i).length c := by unfold rvAt; rw [hm, if_pos rfl, Int.toNat_natCast, hA]
    by_cases h0 : (row g.roots i).length = 0
    · have e : gPop g (i : Int) = (g, false) := by unfold gPop; rw [Int.toNat_natCast, h0]; simp
      rw [e]
      rw [h0] at hv
      have HV := Lib.hid hv
      clear h hm e hv hA hL h0 hmi hil
      go_enter Try.func25, Try.ntmps25
      go_wp2_with (first
        | (go_at_call 43; (with_reducible refine (rootsOf_any H.out (i : Int)).mono ?_); rintro r w1 ⟨rfl, rfl⟩; rw [HV.out])
        | fail)
      go_ret
      exact someP_same H.out (Below.refl _ _)
    · obtain ⟨p, hp⟩ : ∃ p, (row g.roots i).length = p + 1 := ⟨(row g.roots i).length - 1, by omega⟩
      obtain ⟨b, off, rfl, hpc, hL2⟩ := hL.drop hp
      have e : gPop g (i : Int) = (⟨g.roots.set i (row g.roots i).dropLast, g.nodes, g.most⟩, true) := by unfold gPop; rw [hm, Int.toNat_natCast, hp]; simp
      rw [e]
      rw [hp] at hv
      have hsl := slice_drop b off p c hpc
      have hlen := hk.len i hil
      rw [hp] at hlen
      have c1 := h.c1
      have cR := h.cR i hil
      have fR := h.fR i
      have HV := Lib.hid hv
      have HL := Lib.hid hL2
      have HI := Lib.hid hil
      have i0 : (0 : Int) ≤ (i : Int) := by omega
      have i1 := hmi.2
      have p0 : (0 : Int) ≤ (p : Int) := by omega
      have p1 : (p : Int) ≤ 1000 := by omega
      have hpe : (((p + 1 : Nat) : Int) == 0) = false := by rw [beq_eq_false_iff_ne]; omega
      have hpe2 : ((p : Int) + 1 == 0) = false := by rw [beq_eq_false_iff_ne]; omega
      have hws : IntKind.i64.wrap ((p : Int) + 1 - 1) = (p : Int) := by rw [IntWalk.i64_in _ (by omega)]; omega
      have hws2 : IntKind.i64.wrap (((p + 1 : Nat) : Int) - 1) = (p : Int) := by rw [IntWalk.i64_in _ (by omega)]; omega
      clear h hm e hv hA hL h0 hmi hil hL2 hp hlen hpc
      go_enter Try.func25, Try.ntmps25
      go_wp2_with (first
        | (go_at_call 43; (with_reducible refine (rootsOf_any H.out (i : Int)).mono ?_); rintro r w1 ⟨rfl, rfl⟩; rw [HV.out])
        | fail)
      go_region
      go_wp2
      go_ret
      have hu := H.out.upR_set HI.out HL.out 0 1
      exact ⟨t, _, sv, N, rfl, hu.1, hu.2, fun _ _ => rfl, fun k hk => .inl hk⟩
end
end Go.Proofs.Ytjnkcomedcbenaa
