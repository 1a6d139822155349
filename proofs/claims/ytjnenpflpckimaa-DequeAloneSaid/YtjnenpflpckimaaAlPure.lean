/- A list of words in memory that grows behind, and is cut in front and behind. -/
import Derived.Test.YtjnenpflpckimaaUp
import Derived.Test.YtjnenpflpckimaaAid
import Derived.ArgAppend
namespace Go.Proofs.Ytjnenpflpckimaa
open Go.RowKit
set_option linter.unusedVariables false
set_option linter.unusedSimpArgs false
attribute [local irreducible] runs

/-- A list in memory, behind a store. -/
def QV (S D : Nat) (w : World) (v : Value) (Q : List Int) : Prop :=
  (v = .slice none 0 0 ∧ Q = []) ∨ ∃ b off cap cur, v = .slice (some ⟨b, off, none⟩) Q.length cap ∧ (S < b ∧ D < b) ∧ w.heap[b]? = some (.cells cur 29 (0, 0)) ∧ off + cap ≤ cur.size ∧ Q.length ≤ cap ∧ cap ≤ maxLen ∧ ∀ j, j < Q.length → cur[off + j]? = some (.int .u64 (Q.getD j 0))
section
variable {S D : Nat} {w w' : World} {v : Value} {Q : List Int}
theorem QV.below (h : QV S D w v Q) (hb : Below w.heap.size w w') : QV S D w' v Q := by
  rcases h with h | ⟨b, off, cap, cur, h1, h2, h3, h4⟩
  · exact .inl h
  · exact .inr ⟨b, off, cap, cur, h1, h2, (hb.block b (Array.getElem?_eq_some_iff.1 h3).1).trans h3, h4⟩
theorem QV.u3 (h : QV S D w v Q) {M : Nat} (hM : w.heap.size ≤ M) (u : U3 M S D w w') : QV S D w' v Q := by
  rcases h with h | ⟨b, off, cap, cur, h1, h2, h3, h4⟩
  · exact .inl h
  · have hl := (Array.getElem?_eq_some_iff.1 h3).1
    exact .inr ⟨b, off, cap, cur, h1, h2, (u.block b hl (by omega) (by omega) (by omega)).trans h3, h4⟩
theorem QV.u3' (h : QV S D w v Q) {M : Nat} (hM : ∀ b off n c, v = .slice (some ⟨b, off, none⟩) n c → b ≠ M) (u : U3 M S D w w') : QV S D w' v Q := by
  rcases h with h | ⟨b, off, cap, cur, h1, h2, h3, h4⟩
  · exact .inl h
  · have hl := (Array.getElem?_eq_some_iff.1 h3).1
    exact .inr ⟨b, off, cap, cur, h1, h2, (u.block b hl (hM b off _ _ h1) (by omega) (by omega)).trans h3, h4⟩
theorem QV.blk (h : QV S D w v Q) : ∀ b off n c, v = .slice (some ⟨b, off, none⟩) n c → b < w.heap.size := by
  intro b off n c e
  rcases h with ⟨h, _⟩ | ⟨b', off', cap, cur, h1, h2, h3, h4⟩
  · rw [h] at e; cases e
  · rw [h1] at e; cases e
    exact (Array.getElem?_eq_some_iff.1 h3).1
theorem QV.len (h : QV S D w v Q) : ∃ A c, v = .slice A Q.length c := by
  rcases h with ⟨h, rfl⟩ | ⟨b', off', cap, cur, h1, _⟩
  · exact ⟨_, _, h⟩
  · exact ⟨_, _, h1⟩
/-- A list that has words. -/
theorem QV.has (h : QV S D w v Q) (hQ : 0 < Q.length) : ∃ b off cap, v = .slice (some ⟨b, off, none⟩) Q.length cap ∧ Q.length ≤ cap ∧ cap ≤ maxLen ∧ (∀ j, j < Q.length → w.cell? ⟨b, off + j, none⟩ = some (.int .u64 (Q.getD j 0))) ∧
    QV S D w (.slice (some ⟨b, off, none⟩) (Q.length - 1) cap) Q.dropLast ∧ QV S D w (.slice (some ⟨b, if cap = 1 then off else off + 1, none⟩) (Q.length - 1) (cap - 1)) Q.tail := by
  rcases h with ⟨h, rfl⟩ | ⟨b, off, cap, cur, h1, h2, h3, h4, h5, h6, h7⟩
  · simp at hQ
  · refine ⟨b, off, cap, h1, h5, h6, fun j hj => ?_, .inr ⟨b, off, cap, cur, by simp, h2, h3, h4, by simp; omega, h6, fun j hj => ?_⟩, .inr ⟨b, if cap = 1 then off else off + 1, cap - 1, cur, by simp, h2, h3, ?_, by simp; omega, by omega, fun j hj => ?_⟩⟩
    · simp only [World.cell?, h3]
      simpa using h7 j hj
    · simp at hj
      rw [h7 j (by omega)]
      have e : Q.dropLast.getD j 0 = Q.getD j 0 := by
        rw [List.getD, List.getD, List.getElem?_dropLast, if_pos hj]
      rw [e]
    · split <;> omega
    · simp at hj
      rw [if_neg (by omega), show off + 1 + j = off + (j + 1) by omega, h7 (j + 1) (by omega)]
      simp [List.getD, List.getElem?_tail]
theorem qv_of_own {n : Nat} (h : w'.ownsRow w.heap.size 29 1 v n (Q.map (Value.int .u64))) (hn : n = Q.length) (h0 : 0 < n) (hS : S < w.heap.size) (hD : D < w.heap.size) : QV S D w' v Q := by
  obtain ⟨hl, ⟨rfl, h⟩ | ⟨g, cap, cur, rfl, hg, hh, hc, hm, hs, ht⟩⟩ := h
  · omega
  · subst hn
    refine .inr ⟨g, 0, cap, cur, rfl, by omega, hh, by omega, hc, hm, fun j hj => ?_⟩
    have e : (cur.toList.take (Q.length * 1))[j]? = (Q.map (Value.int .u64))[j]? := congrArg (fun l => l[j]?) ht
    rw [List.getElem?_take, if_pos (by omega), map_get .u64 Q j hj] at e
    simpa using e
theorem setCells_one (w : World) (b o : Nat) (v : Value) : w.setCells b o [v] = w.setCell ⟨b, o, none⟩ v := rfl
end

/-- One word comes behind. -/
theorem run_append_q {S D x : Nat} {w : World} {v : Value} {Q : List Int} {z : Int} (ty : TypeId) (h : QV S D w v Q) (hS : S < w.heap.size) (hD : D < w.heap.size) (hx : w.cell? ⟨x, 0, none⟩ = some (.int .u64 z)) (hq : Q.length ≤ 1000) :
    ∃ v' w', (Builtin.append_ #[28, 28] ty #[v, .slice (some ⟨x, 0, none⟩) 1 1]).run Try.prog w = .ok v' w' ∧ QV S D w' v' (Q ++ [z]) ∧ ∃ b, S < b ∧ D < b ∧ Upd b b w w' := by
  obtain ⟨i0, hi0, hz0, hz1, hz2⟩ := info_parts info29
  have hnews : ∀ (j : Nat) (u : Value), ([Value.int .u64 z] : List Value)[j]? = some u → w.cell? ((⟨x, 0, none⟩ : Addr).add j) = some u := by
    intro j u hj
    match j, hj with
    | 0, hj =>
      simp at hj
      subst hj
      rw [add_off]; exact hx
  have h1 : ∀ u ∈ ([Value.int .u64 z] : List Value), u.oneCell' = true := by
    intro u hu; rw [List.mem_singleton.1 hu]; rfl
  have fin : ∀ v' w', w'.ownsRow w.heap.size 29 1 v' (Q.length + 1) (Q.map (Value.int .u64) ++ [.int .u64 z]) → w.grownBy w' none → QV S D w' v' (Q ++ [z]) ∧ ∃ b, S < b ∧ D < b ∧ Upd b b w w' := by
    intro v' w' ho hg
    refine ⟨qv_of_own (n := Q.length + 1) (by rw [List.map_append]; exact ho) (by simp) (by omega) hS hD, w.heap.size, hS, hD, hg.os, hg.tape, hg.output, hg.size, fun k hk _ _ => hg.block k hk (by simp)⟩
  rcases h with ⟨rfl, rfl⟩ | ⟨b, off, cap, cur, rfl, hb, hh, hoc, hqc, hcm, hcell⟩
  · obtain ⟨v', w', hr, ho, hg, -⟩ := run_append_own (P := Try.prog) w w.heap.size 28 ty 29 i0 _ 1 8 Try.underlying28 hi0 hz0 hz1 hz2 rfl (by decide) (.slice none 0 0) 0 [] (World.ownsRow_nil _ _ _ _) ⟨x, 0, none⟩ 1 1 [.int .u64 z] rfl hnews h1 (by unfold maxLen; omega) (by omega) (Nat.le_refl _)
    exact ⟨v', w', hr, fin v' w' ho hg⟩
  · have olds : ∀ (j : Nat) (u : Value), (Q.map (Value.int .u64))[j]? = some u → w.cell? ((⟨b, off, none⟩ : Addr).add j) = some u := by
      intro j u hj
      rcases Nat.lt_or_ge j Q.length with hj' | hj'
      · rw [map_get .u64 Q j hj'] at hj
        rw [add_off]
        simp only [World.cell?, hh]
        have := hcell j hj'
        rw [← hj]; simpa using this
      · rw [List.getElem?_eq_none (by simpa using hj')] at hj; cases hj
    by_cases hroom : Q.length + 1 ≤ cap
    · have hlt : off + Q.length < cur.size := by omega
      have hr := run_append_room_cells (P := Try.prog) w 28 ty 29 i0 Try.underlying28 hi0 b off Q.length cap ⟨x, 0, none⟩ 1 1 [.int .u64 z] (by rw [hz1]; rfl) hnews h1 hroom (fun j hj => by
        have : j = 0 := by simp at hj; omega
        subst this
        simp only [World.cell?, hh, hz1]
        simp [hlt]) (fun j hj => frozen_of_row w b _ _ _ hh)
      rw [hz1, Nat.mul_one, setCells_one] at hr
      refine ⟨_, _, hr, .inr ⟨b, off, cap, cur.setIfInBounds (off + Q.length) (.int .u64 z), by simp, hb, heap_setCell_same w b _ _ 29 _ hh, by simpa using hoc, by simp; omega, hcm, fun j hj => ?_⟩, b, hb.1, hb.2, rfl, rfl, rfl, by simp, fun k hk h1 _ => heap_setCell_other w ⟨b, off + Q.length, none⟩ k _ h1⟩
      simp at hj
      by_cases hj2 : j = Q.length
      · subst hj2
        simp [List.getD, hlt]
      · have hj3 : j < Q.length := by omega
        rw [Array.getElem?_setIfInBounds_ne (by omega), hcell j hj3]
        simp [List.getD, List.getElem?_append_left hj3]
    · obtain ⟨v', w', hr, ho, hg⟩ := run_append_arg_grows (P := Try.prog) w 28 ty 29 i0 _ 1 8 Try.underlying28 hi0 hz0 hz1 hz2 rfl (by decide) ⟨b, off, none⟩ Q.length cap (Q.map (Value.int .u64)) (by simp) olds ⟨x, 0, none⟩ 1 1 [.int .u64 z] rfl hnews (by omega) (by unfold maxLen; omega) (by omega)
      exact ⟨v', w', hr, fin v' w' ho hg⟩
theorem append_q {S D x : Nat} {w : World} {ops : Array Oper} {rest : List Oper} {o : Oper} {a : Act} {R : Exit → Act → World → Prop} (hg : o.guard = none) (s y : Operand)
    (ho : o.op = .call { callee := .builtin .append, args := #[s, y], argTypes := #[28, 28] }) {v : Value} {Q : List Int} {z : Int} (h : QV S D w v Q) (hS : S < w.heap.size ∧ D < w.heap.size) (hx : w.cell? ⟨x, 0, none⟩ = some (.int .u64 z)) (hq : Q.length ≤ 1000)
    (hs : a.eval s = v) (hy : a.eval y = .slice (some ⟨x, 0, none⟩) 1 1)
    (k : ∀ v' w', QV S D w' v' (Q ++ [z]) → (∃ b, S < b ∧ D < b ∧ Upd b b w w') → wpList Try.prog ops R rest (a.put o.dst v') w') : wpList Try.prog ops R (o :: rest) a w := by
  refine wpList_plain hg fun K hK => ?_
  obtain ⟨v', w', hr, h2, h3⟩ := run_append_q o.type h hS.1 hS.2 hx hq
  unfold Oper.wp execOp
  simp only [ho, resolve, invoke, builtin, Sem.run_bind, Sem.run_pure, Result.andThen_ok, List.map_toArray, List.map_cons, List.map_nil, hs, hy, hr]
  exact hK _ _ (k v' w' h2 h3)

set_option maxRecDepth 100000 in
theorem slice_drop28 (b off p q : Nat) (h : p + 1 ≤ q) (w : World) : (Instr.slice 28 (.slice (some ⟨b, off, none⟩) (p + 1) q) none (some (.int .i64 (p : Int))) none).run Try.prog w = .ok (.slice (some ⟨b, off, none⟩) p q) w := by
  have e := run_slice_h (P := Try.prog) w 28 (some ⟨b, off, none⟩) (p + 1) q Try.underlying28 .i64 (p : Int) (by omega) (by omega)
  rw [e]
  have hq : ¬ q = 0 := by omega
  simp [sliced, go_sem, hq]
set_option maxRecDepth 100000 in
theorem slice_tail28 (b off n c : Nat) (h : 0 < n) (hc : n ≤ c) (w : World) : (Instr.slice 28 (.slice (some ⟨b, off, none⟩) n c) (some (.int .i64 1)) none none).run Try.prog w = .ok (.slice (some ⟨b, if c = 1 then off else off + 1, none⟩) (n - 1) (c - 1)) w := by
  have e := run_slice_l (P := Try.prog) w 28 (some ⟨b, off, none⟩) n c Try.underlying28 .i64 1 (by omega) (by omega)
  rw [e]
  by_cases hq : c = 1
  · simp [sliced, go_sem, hq]
  · simp [sliced, go_sem, hq]
end Go.Proofs.Ytjnenpflpckimaa
