/- The program's graph: a node more; walked. -/
import Derived.Test.YtjnkcomedcbenaaPWrite
namespace Go.Proofs.Ytjnkcomedcbenaa
open Go.RowKit
set_option linter.unusedVariables false

/-- A block has been made, the first one since. -/
structure First (w W : World) (A : Obj) : Prop where
  bel : Below w.heap.size w W
  at0 : W.heap[w.heap.size]? = some A
theorem First.start (w : World) (A : Obj) : First w (w.alloc A) A := ⟨below_alloc0 (Below.refl _ _) A, by show (w.heap.push A)[w.heap.size]? = _; simp⟩
theorem First.start2 (w : World) (A : Obj) : First w (w.drew.alloc A) A := ⟨below_alloc0 (Below.refl _ _).drew A, by show (w.heap.push A)[w.heap.size]? = _; simp⟩
theorem First.drew {w W : World} {A : Obj} (h : First w W A) : First w W.drew A := ⟨h.bel.drew, h.at0⟩
theorem First.alloc {w W : World} {A : Obj} (h : First w W A) (B : Obj) : First w (W.alloc B) A := ⟨below_alloc0 h.bel B, (Below.heap_alloc W B _ (lt_of h.at0)).trans h.at0⟩

theorem step_appN {ops : Array Oper} {o : Oper} {a : Act} {K : Act → World → Prop} {Q : Exit → Act → World → Prop} {E : Prop} (hgd : o.guard = none) (s x : Operand)
    (ho : o.op = .call { callee := .builtin .append, args := #[s, x], argTypes := #[26, 26] })
    (w W : World) (A : Obj) (hb : First w W A) (N : Value) (n : Nat) (sv : List Value) (hs : a.eval s = N) (h : w.ownsRow 0 43 1 N n sv)
    (u : Value) (hu : u.oneCell' = true) (b : Nat) (hx : a.eval x = .slice (some ⟨b, 0, none⟩) 1 1) (hsrc : W.cell? ⟨b, 0, none⟩ = some u) (hl : n ≤ 1000)
    (hK : ∀ g cap w', w'.ownsRow 0 43 1 (.slice (some ⟨g, 0, none⟩) (n + 1) cap) (n + 1) (sv ++ [u]) → W.grownBy w' N.ownBlock → (N.ownBlock = some g ∨ w.heap.size + 1 ≤ g) → g < w'.heap.size → First w W A → K (a.put o.dst (.slice (some ⟨g, 0, none⟩) (n + 1) cap)) w') :
    if Region.wanted o (yielded ops a.tmps) = true then Oper.wp Try.prog o a W K Q else E := by
  obtain ⟨i0, hi0, hz0, hz1, hz2⟩ := info_parts info43
  have hown : W.ownsRow 0 43 1 N n sv := h.kept (row := none) ⟨hb.bel.os, hb.bel.tape, hb.bel.output, hb.bel.size, fun i hi _ => hb.bel.block i hi⟩ (by cases N.ownBlock <;> simp)
  have hlt := lt_of hb.at0
  refine step_append_lies _ hgd s x 26 ho 0 43 i0 _ 1 24 Try.underlying26 hi0 hz0 hz1 hz2 rfl (by decide) N n sv hs hown ⟨b, 0, none⟩ 1 1 [u] hx rfl ?_ ?_ (by decide) (by unfold maxLen; omega) (by omega) (Nat.zero_le _) _ rfl ?_
  · intro j v hj
    match j, hj with
    | 0, hj => simp at hj; subst hj; rw [add_off]; exact hsrc
  · intro v hv; simp at hv; subst hv; exact hu
  · intro g cap w' h1 h2 h3 h4
    exact hK g cap w' h1 h2 (h3.imp id fun e => by omega) h4 hb

section
variable {w w1 w' : World} {S R : Nat} {t : Nat → Tag} {rv sv : List Value} {N : Value} {g g' : Gr}
theorem PM.afterN (h : PM w S R t rv sv N g) {W w2 : World} {A : Obj} (hf : First w W A) (hg : W.grownBy w2 N.ownBlock) : w2.cell? ⟨S, 2, none⟩ = some N ∧ w2.frozen? ⟨S, 2, none⟩ = false := by
  have hb : w2.heap[S]? = W.heap[S]? := hg.block S (Nat.lt_of_lt_of_le (lt_of h.hS) hf.bel.size) (fun e => by have := h.tN S e.symm; rw [h.tS] at this; cases this)
  exact ⟨(World.cell?_of_block (w := W) (a := ⟨S, 2, none⟩) hb).trans (h.below hf.bel).c2, (World.frozen?_of_block (w := W) (a := ⟨S, 2, none⟩) hb).trans ((h.below hf.bel).fS 2)⟩
theorem PM.made (h : PM w S R t rv sv N g) {W w2 : World} {CS : Array Value} {n G d : Nat} (hf : First w W (.cells CS 3)) (hC : CS = ((List.replicate n (0 : Int)).map (Value.int .i64)).toArray) (hn : n ≤ 64)
    (ho : w2.ownsRow 0 43 1 (.slice (some ⟨G, 0, none⟩) (g.nodes.length + 1) d) (g.nodes.length + 1) (sv ++ [.slice (some ⟨w.heap.size, 0, none⟩) n n])) (hg : W.grownBy w2 N.ownBlock) (hw : N.ownBlock = some G ∨ w.heap.size + 1 ≤ G) (hlt : G < w2.heap.size) :
    SomeP S R t ⟨g.roots, g.nodes ++ [List.replicate n 0], g.most⟩ (.int .i64 ((g.nodes.length : Int) + 1)) w (.returned (.int .i64 ((g.nodes.length : Int) + 1))) (w2.setCell ⟨S, 2, none⟩ (.slice (some ⟨G, 0, none⟩) (g.nodes.length + 1) d)) := by
  obtain ⟨w3, hw3⟩ : ∃ w3, w3 = w2.setCell ⟨S, 2, none⟩ (.slice (some ⟨G, 0, none⟩) (g.nodes.length + 1) d) := ⟨_, rfl⟩
  rw [← hw3]
  have hS0 := lt_of h.hS
  have hGn : G ≠ w.heap.size := by
    rcases hw with e | e
    · have := h.low G (by rw [h.tN G e]; simp); omega
    · omega
  have hGS : G ≠ S := by
    rcases hw with e | e
    · intro e2; have := h.tN G e; rw [e2, h.tS] at this; cases this
    · omega
  have hWs := hf.bel.size
  have hFs := lt_of hf.at0
  have hsz : w3.heap.size = w2.heap.size := by rw [hw3]; simp
  have hoth : ∀ k, k ≠ S → w3.heap[k]? = w2.heap[k]? := fun k hk => by rw [hw3]; exact heap_setCell_other w2 ⟨S, 2, none⟩ k _ hk
  have hNb : ∀ k, t k ≠ .nodes → some k ≠ N.ownBlock := fun k hk e => hk (h.tN k e.symm)
  have hk2 : ∀ k, k < w.heap.size → t k ≠ .nodes → w2.heap[k]? = w.heap[k]? := fun k hk hn => (hg.block k (by omega) (hNb k hn)).trans (hf.bel.block k hk)
  have hkk : ∀ k, t k ≠ .out → t k ≠ .nodes → t k ≠ .self → w3.heap[k]? = w.heap[k]? := fun k h1 h2 h3 => (hoth k fun e => h3 (e ▸ h.tS)).trans (hk2 k (h.low k h1) h2)
  have tout : t w.heap.size = .out := Classical.byContradiction fun e => Nat.lt_irrefl _ (h.low _ e)
  obtain ⟨t', ht'⟩ : ∃ t' : Nat → Tag, t' = fun k => if k = w.heap.size then .node g.nodes.length else if k = G then .nodes else t k := ⟨_, rfl⟩
  have tNew : t' w.heap.size = .node g.nodes.length := by rw [ht']; simp
  have tG : t' G = .nodes := by rw [ht']; simp [hGn]
  have told : ∀ k, t k ≠ .out → t' k = t k := fun k hk => by
    have hk1 := h.low k hk
    by_cases e : k = G
    · rw [e, tG]
      rcases hw with e2 | e2
      · exact (h.tN G e2).symm
      · omega
    · rw [ht']; simp [e, Nat.ne_of_lt hk1]
  have tnew : ∀ k, t' k ≠ .out → t k ≠ .out ∨ k = w.heap.size ∨ k = G := fun k hk => by
    by_cases e1 : k = w.heap.size
    · exact .inr (.inl e1)
    · by_cases e2 : k = G
      · exact .inr (.inr e2)
      · left
        rw [ht'] at hk
        simpa [e1, e2] using hk
  have hnl : (g.nodes ++ [List.replicate n 0]).length = g.nodes.length + 1 := by simp
  refine ⟨t', rv, sv ++ [.slice (some ⟨w.heap.size, 0, none⟩) n n], .slice (some ⟨G, 0, none⟩) (g.nodes.length + 1) d, rfl, ⟨fun k hk => ?_, (told S (by rw [h.tS]; simp)).trans h.tS, (told R (by rw [h.tR]; simp)).trans h.tR, fun k e => ?_, ?_, ?_, h.rl, ?_, fun m hm => (h.lists m hm).kept fun k hk ht => ?_, fun v hv => ?_⟩, ⟨?_, ?_, ?_, ?_, fun k hk hn => ?_⟩, told, fun k hk => ?_⟩
  · rw [hsz]
    rcases tnew k hk with e | e | e
    · have := h.low k e; have := hg.size; omega
    · have := hg.size; omega
    · omega
  · simp [Value.ownBlock] at e; rw [← e]; exact tG
  · have e : w2.heap[S]? = _ := (hk2 S hS0 (by rw [h.tS]; simp)).trans h.hS
    rw [hw3, heap_setCell_same _ _ _ _ _ _ e]; rfl
  · exact (hkk R (by rw [h.tR]; simp) (by rw [h.tR]; simp) (by rw [h.tR]; simp)).trans h.hR
  · rw [hnl]
    refine ⟨ho.1, ?_⟩
    rcases ho.2 with h2 | ⟨b2, cap, cur, e, h1, h2, h3⟩
    · exact .inl h2
    · cases e
      exact .inr ⟨_, _, cur, rfl, h1, (hoth _ hGS).trans h2, h3⟩
  · exact ⟨hkk k (by rcases ht with ht | ht <;> rw [ht] <;> simp) (by rcases ht with ht | ht <;> rw [ht] <;> simp) (by rcases ht with ht | ht <;> rw [ht] <;> simp), told k (by rcases ht with ht | ht <;> rw [ht] <;> simp)⟩
  · simp only at hv ⊢
    rw [row_app]
    by_cases e : v = g.nodes.length
    · rw [if_pos e, e]
      have e2 : (sv ++ [Value.slice (some ⟨w.heap.size, 0, none⟩) n n]).getD g.nodes.length undef = .slice (some ⟨w.heap.size, 0, none⟩) n n := by
        rw [← h.svl]; simp
      rw [e2]
      refine ⟨w.heap.size, by simp, tNew, ?_, by simpa using hn⟩
      rw [hoth _ (by omega), hg.block _ hFs (hNb _ (by rw [tout]; simp)), hf.at0, hC]
    · rw [if_neg e]
      have hv' : v < g.nodes.length := by rw [hnl] at hv; omega
      rw [List.getD, List.getElem?_append_left (by rw [h.svl]; exact hv')]
      exact (h.slots v hv').kept fun k hk ht => ⟨hkk k (by rw [ht]; simp) (by rw [ht]; simp) (by rw [ht]; simp), told k (by rw [ht]; simp)⟩
  · rw [hw3]; exact hg.os.trans hf.bel.os
  · rw [hw3]; exact hg.tape.trans hf.bel.tape
  · rw [hw3]; exact hg.output.trans hf.bel.output
  · rw [hsz]; have := hg.size; omega
  · have ho : t k = .out := Classical.byContradiction hn
    exact (hoth k fun e => by rw [e, h.tS] at ho; cases ho).trans (hk2 k hk (by rw [ho]; simp))
  · rcases tnew k hk with e | e | e
    · exact .inl e
    · right; omega
    · rcases hw with e2 | e2
      · left; rw [e, h.tN G e2]; simp
      · right; omega
set_option maxRecDepth 100000 in
set_option maxHeartbeats 4000000 in
theorem madeP (h : PM w S R t rv sv N g) (hnn : g.nodes.length ≤ 1000) (n : Nat) (hn : n ≤ 64) : Calls Try.prog 31 #[ptr S, .int .i64 (n : Int)] w (SomeP S R t ⟨g.roots, g.nodes ++ [List.replicate n 0], g.most⟩ (.int .i64 ((g.nodes.length : Int) + 1)) w) := by
  have H := Lib.hid h
  have c2 := h.c2
  have f2 := h.fS 2
  have hmk := fun w => make_ints n w (by omega)
  obtain ⟨CS, hCS⟩ : ∃ CS, CS = ((List.replicate n (0 : Int)).map (Value.int .i64)).toArray := ⟨_, rfl⟩
  rw [← hCS] at hmk
  have HN := Lib.hid h.hN; have HL := Lib.hid hnn; have HC := Lib.hid hCS; have HM := Lib.hid hn
  have k1 := (h.below (below_alloc0 (Below.refl _ _) (.cells CS 3))).c2
  have k2 := (h.below (below_alloc0 (Below.refl _ _) (.cells CS 3)).drew).c2
  have k3 := (h.below (below_alloc0 (below_alloc0 (Below.refl _ _) (.cells CS 3)) (.cells #[.slice (some ⟨w.heap.size, 0, none⟩) n n] 43))).c2
  have k4 := (h.below (below_alloc0 (below_alloc0 (Below.refl _ _) (.cells CS 3)) (.cells #[.slice (some ⟨w.heap.size, 0, none⟩) n n] 43)).drew).c2
  clear h hCS hnn hn
  go_enter Try.func31, Try.ntmps31
  go_wp2_with (fail)
  go_region_law (first
      | (refine step_appN rfl _ _ rfl w _ (.cells CS 3) (by repeat (first | exact First.start _ _ | exact First.start2 _ _ | refine First.drew ?_ | refine First.alloc ?_ _)) N g.nodes.length sv rfl HN.out _ ?_ _ rfl (World.cell?_alloc_at _ _ _ _ (by simp)) HL.out ?_; rfl; intro G2 d2 w2 ho2 hg2 hw2 hlt2 hf2; obtain ⟨cS2, fS2⟩ := H.out.afterN hf2 hg2; have HO2 := Lib.hid ho2; have HG2 := Lib.hid hg2; have HW2 := Lib.hid hw2; have HF2 := Lib.hid hf2; clear ho2 hg2 hw2 hf2)
      | fail)
  all_goals
    have hend := H.out.made HF2.out HC.out HM.out HO2.out HG2.out HW2.out hlt2
    have HE := Lib.hid hend
    clear hend
    go_wp2
    go_ret
    exact HE.out
end
end Go.Proofs.Ytjnkcomedcbenaa
