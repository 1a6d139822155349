/- One that pushes and pops, and two that steal, in memory: how it begins. -/
import Derived.Test.YtjnenpflpckimaaOnSt
import Derived.Test.YtjnenpflpckimaaBools
namespace Go.Proofs.Ytjnenpflpckimaa
open Go.RowKit
set_option linter.unusedVariables false
set_option linter.unusedSimpArgs false
attribute [local irreducible] runs

theorem info3 : (Try.prog.info? 3).map (fun i => (i.zero, i.size, i.bytes)) = some (some (.int .i64 0), 1, 8) := by kernel_rfl
theorem info4 : (Try.prog.info? 4).map (fun i => (i.zero, i.size, i.bytes)) = some (some (.bool false), 1, 1) := by kernel_rfl
theorem made_any (x : Value) (hx : x.cells = #[x]) (n : Nat) : madeCells x.cells n = (List.replicate n x).toArray := by
  apply Array.ext'
  apply List.ext_getElem?
  intro j
  rw [hx]
  by_cases hj : j < n
  · simp [madeCells, hj, Nat.mod_one]
  · simp [madeCells, hj]
theorem make_ints (n : Nat) (w : World) (hn : n ≤ 1000000) : (Instr.makeSlice 37 (.int .i64 (n : Int)) (.int .i64 (n : Int))).run Try.prog w = .ok (.slice (some ⟨w.heap.size, 0, none⟩) n n) (w.alloc (.cells ((List.replicate n (0 : Int)).map (Value.int .i64)).toArray 3)) := by
  obtain ⟨i0, hi, hz0, hz1, hz2⟩ := info_parts info3
  have := run_make w 37 3 i0 (.int .i64 0) Try.underlying37 hi hz0 .i64 .i64 n n (by omega) (Int.le_refl _) (by rw [hz2]; omega) (by omega)
  rw [made_any _ rfl] at this
  simpa [hz1] using this
theorem make_bools (n : Nat) (w : World) (hn : n ≤ 1000000) : (Instr.makeSlice 36 (.int .i64 (n : Int)) (.int .i64 (n : Int))).run Try.prog w = .ok (.slice (some ⟨w.heap.size, 0, none⟩) n n) (w.alloc (.cells ((List.replicate n false).map Value.bool).toArray 4)) := by
  obtain ⟨i0, hi, hz0, hz1, hz2⟩ := info_parts info4
  have := run_make w 36 4 i0 (.bool false) Try.underlying36 hi hz0 .i64 .i64 n n (by omega) (Int.le_refl _) (by rw [hz2]; omega) (by omega)
  rw [made_any _ rfl] at this
  simpa [hz1] using this
theorem ir_new (w : World) (L : List Int) : IR (w.alloc (.cells (L.map (Value.int .i64)).toArray 3)) w.heap.size L := box_new ..
theorem br_new (w : World) (L : List Bool) : BR (w.alloc (.cells (L.map Value.bool).toArray 4)) w.heap.size L := box_new ..

/-- Machines that are made, ahead of the loop; the two rows. -/
structure Bg (TK PU S D E : Nat) (w wr : World) (n A : Nat) (Ms : List Nat) (Ks : List Nat) : Prop where
  ok : Ok w.heap.size S D E w wr (ek n) (List.replicate (n + 3) 0) 0
  tk : IR wr TK (List.replicate (A + 2) 0)
  pu : BR wr PU (List.replicate (A + 2) false)
  l1 : S < TK ∧ D < TK ∧ TK < PU ∧ PU < wr.heap.size
  mm : ∀ M ∈ Ms, MM wr M (mSteal (ek n))
  lo : ∀ M ∈ Ks, PU < M ∧ M < wr.heap.size
  sub : ∀ M ∈ Ms, M ∈ Ks
  nd : Ks.Nodup
section
variable {TK PU S D E M : Nat} {w wr w' : World} {n A : Nat} {Ms Ks : List Nat}
theorem Bg.step (h : Bg TK PU S D E w wr n A Ms Ks) (hb : Below wr.heap.size wr w') : Bg TK PU S D E w w' n A Ms Ks := by
  have hs := hb.size
  exact ⟨h.ok.step hb, h.tk.below hb, h.pu.below hb, by have := h.l1; omega, fun M hM => (h.mm M hM).below hb, fun M hM => by have := h.lo M hM; omega, h.sub, h.nd⟩
/-- One that is not looked at any more. -/
theorem Bg.other (h : Bg TK PU S D E w wr n A Ms Ks) {m : Mc} (hM : wr.heap.size ≤ M) (hm : MM w' M m) (hb : Below wr.heap.size wr w') : Bg TK PU S D E w w' n A Ms (M :: Ks) := by
  have h' := h.step hb
  have l1 := h.l1
  have lt := hm.lt
  refine ⟨h'.ok, h'.tk, h'.pu, h'.l1, h'.mm, fun K hK => ?_, fun K hK => List.mem_cons_of_mem _ (h.sub K hK), List.nodup_cons.2 ⟨fun hin => ?_, h.nd⟩⟩
  · rcases List.mem_cons.1 hK with rfl | hK
    · omega
    · exact h'.lo K hK
  · have := h.lo M hin; omega
theorem Bg.thief (h : Bg TK PU S D E w wr n A Ms Ks) (hM : wr.heap.size ≤ M) (hm : MM w' M (mSteal (ek n))) (hb : Below wr.heap.size wr w') : Bg TK PU S D E w w' n A (M :: Ms) (M :: Ks) := by
  have h' := h.other hM hm hb
  refine ⟨h'.ok, h'.tk, h'.pu, h'.l1, fun K hK => ?_, h'.lo, fun K hK => ?_, h'.nd⟩
  · rcases List.mem_cons.1 hK with rfl | hK
    · exact hm
    · exact h'.mm K hK
  · rcases List.mem_cons.1 hK with rfl | hK
    · simp
    · exact List.mem_cons_of_mem _ (h.sub K hK)
theorem Bg.cells (h : Bg TK PU S D E w wr n A Ms Ks) : wr.cell? ⟨E, 0, none⟩ = some (.int .i64 0) ∧ wr.cell? ⟨E, 1, none⟩ = some (.int .i64 1) ∧ wr.cell? ⟨E, 2, none⟩ = some (.int .i64 2) ∧ wr.cell? ⟨E, 3, none⟩ = some (.int .i64 ((n : Int) + 1)) := h.ok.cells
theorem Bg.start {S D E : Nat} {w wr : World} {n A : Nat} (h : Ok w.heap.size S D E w wr (ek n) (List.replicate (n + 3) 0) 0) :
    Bg wr.heap.size (wr.heap.size + 1) S D E w ((wr.alloc (.cells ((List.replicate (A + 2) (0 : Int)).map (Value.int .i64)).toArray 3)).alloc (.cells ((List.replicate (A + 2) false).map Value.bool).toArray 4)) n A [] [] := by
  have b1 := below_al wr (.cells ((List.replicate (A + 2) (0 : Int)).map (Value.int .i64)).toArray 3)
  have b2 := below_al (wr.alloc (.cells ((List.replicate (A + 2) (0 : Int)).map (Value.int .i64)).toArray 3)) (.cells ((List.replicate (A + 2) false).map Value.bool).toArray 4)
  have e : (wr.alloc (.cells ((List.replicate (A + 2) (0 : Int)).map (Value.int .i64)).toArray 3)).heap.size = wr.heap.size + 1 := by simp
  have hl := h.ltS
  have r2 := br_new (wr.alloc (.cells ((List.replicate (A + 2) (0 : Int)).map (Value.int .i64)).toArray 3)) (List.replicate (A + 2) false)
  rw [e] at r2
  refine ⟨(h.step b1).step b2, (ir_new wr _).below b2, r2, ⟨hl.1, hl.2, by omega, ?_⟩, by simp, by simp, by simp, by simp⟩
  have := r2
  exact (Array.getElem?_eq_some_iff.1 this).1
/-- Two thieves are made, and their row. -/
theorem Bg.two {M0 M1 M2 : Nat} {acts : List Bool} (h : Bg TK PU S D E w wr n A [M2, M1] [M2, M1, M0]) (hn : n ≤ 99) (hA : A ≤ 60) :
    OL [TK, PU, wr.heap.size] M0 M1 M2 S D E w (wr.alloc (.cells #[ptr M1, ptr M2] 32)) n A acts (List.replicate (n + 3) 0) 0 ⟨2, 0, ek n, 0, 0, 0, false, 0⟩ (mSteal (ek n)) (mSteal (ek n)) 0 0 0 (List.replicate (A + 2) 0) (List.replicate (A + 2) false) ∧
    Rws (wr.alloc (.cells #[ptr M1, ptr M2] 32)) TK PU wr.heap.size (List.replicate (A + 2) 0) (List.replicate (A + 2) false) (ptr M1) (ptr M2) ∧
    (TK ≠ PU ∧ TK ≠ wr.heap.size ∧ PU ≠ wr.heap.size) := by
  have hb := below_al wr (.cells #[ptr M1, ptr M2] 32)
  have o := Osn.begin (n := n + 1) (A := A) (by omega) (by omega) hA
  rw [ek_eq, show 2 + (n + 1) = n + 3 by omega] at o
  have l1 := h.l1
  have m0 := h.lo M0 (by simp); have m1 := h.lo M1 (by simp); have m2 := h.lo M2 (by simp)
  have nd := h.nd
  simp only [List.nodup_cons, List.mem_cons, List.not_mem_nil, or_false, not_or] at nd
  have nn : NN (List.replicate (n + 3) 0) := fun x hx => by rw [List.eq_of_mem_replicate hx]; exact Int.le_refl 0
  have eo := ek_ok n hn
  refine ⟨⟨⟨h.ok.step hb, fun hp => absurd rfl hp, fun _ => (h.mm M1 (by simp)).below hb, fun _ => (h.mm M2 (by simp)).below hb, ⟨nn, eo, Int.le_refl 0, Int.le_refl 0, Int.le_refl 0⟩, ws_steal nn eo, ws_steal nn eo, ?_, ?_, ?_, fun V hV => ?_, ?_⟩, o, hn, Int.le_refl 0, by omega, fun hp => absurd rfl hp⟩, ⟨h.tk.below hb, h.pu.below hb, box_new ..⟩, ?_⟩
  · simp; omega
  · simp; omega
  · simp; omega
  · simp at hV ⊢
    rcases hV with rfl | rfl | rfl <;> omega
  · exact ⟨fun e => nd.2.1 e.symm, fun e => nd.1.2 e.symm, fun e => nd.1.1 e.symm⟩
  · omega
end

/-- How large the counts are. -/
theorem OL.lens {Vs : List Nat} {M0 M1 M2 S D E : Nat} {w wr : World} {n A : Nat} {acts : List Bool} {L : List Int} {k : Int} {own a b : Mc} {v last nx : Int} {tk : List Int} {pu : List Bool}
    (h : OL Vs M0 M1 M2 S D E w wr n A acts L k own a b v last nx tk pu) : tk.length = A + 2 ∧ pu.length = A + 2 ∧ A ≤ 60 ∧ 0 ≤ v ∧ v ≤ A ∧ ∀ y : Nat, 1 ≤ y → y < A + 2 → -2000 ≤ tk.getD y 0 ∧ tk.getD y 0 ≤ 1 := by
  obtain ⟨T, β, g, bc, Q, D, P, ta, tb, hb, ac⟩ := h.o.ex
  have tl := h.o.tl
  have hwn := h.o.wn
  have hnA := h.o.nA
  refine ⟨tl, by rw [ac.len, tl], h.o.a60, h.o.w0, ?_, fun y hy hyl => ?_⟩
  · omega
  · have hc := ac.count y hy (by omega)
    have h1 : (Q ++ hand own).count (y : Int) ≤ (Q ++ hand own).length := List.count_le_length
    have h2 : (hand own).length ≤ 1 := by unfold hand; split <;> simp
    have hq := D.q
    have hf := D.full
    have hn := h.n100
    rw [List.length_append] at h1
    split at hc <;> omega
end Go.Proofs.Ytjnenpflpckimaa
