/- An operation by its kind, over the program's graph; the document's example; walked. -/
import Derived.Test.YtjnkcomedcbenaaGPrg
namespace Go.Proofs.Ytjnkcomedcbenaa
open Go.RowKit
set_option linter.unusedVariables false

abbrev opV (x : Op5) : Value := .agg #[.int .u8 x.d, .int .i64 x.m, .int .i64 x.a, .int .i64 x.i, .int .i64 x.b]
theorem UpdF.of_below {F : Nat → Prop} {w w' : World} (h : Below w.heap.size w w') : UpdF F w w' := ⟨h.os, h.tape, h.output, h.size, fun k hk _ => h.block k hk⟩
theorem UpdF.kept {F P : Nat → Prop} {w w' : World} (h : UpdF F w w') (hp : ∀ k, P k → ¬ F k) : Kept P w w' := ⟨h.size, fun k hk hpk => h.block k hk (hp k hpk)⟩
theorem gp_below {w w' : World} {S : Nat} {T F : Nat → Prop} {g : Gr} (h : GP w S T F g) (hb : Below w.heap.size w w') : GP w' S T F g := gp_kept h hb.size fun k hk => hb.block k (gp_lt h k hk)
theorem some_alloc {S : Nat} {T F : Nat → Prop} {g' : Gr} {r : Value} {w : World} {o : Obj} {e : Ending} {w' : World} (h : SomeOp S T F g' r (w.alloc o) e w') (hT : ∀ k, T k → k < w.heap.size) (hF : ∀ k, F k → T k) : SomeOp S T F g' r w e w' := by
  obtain ⟨T', F', he, hg, hu, hT', hF'⟩ := h
  refine ⟨T', F', he, hg, ⟨hu.os, hu.tape, hu.output, by have := hu.size; simp at this; omega, fun k hk hnf => ?_⟩, fun k hk => ?_, fun k hk => ?_⟩
  · rw [hu.block k (by simp; omega) hnf]; exact Below.heap_alloc _ _ _ hk
  · rcases hT' k hk with h | h
    · exact .inl h
    · right; simp at h; omega
  · rcases hF' k hk with h | h
    · exact .inl h
    · right; simp at h; omega
theorem some_tuple {S : Nat} {T F : Nat → Prop} {g' : Gr} {r r' : Value} {w : World} {e e' : Ending} {w' : World} (h : SomeOp S T F g' r w e w') (he : e' = .returned r') : SomeOp S T F g' r' w e' w' := by
  obtain ⟨T', F', _, h⟩ := h
  exact ⟨T', F', he, h⟩

set_option maxHeartbeats 4000000 in
theorem play_p {w : World} {S : Nat} {T F : Nat → Prop} {g : Gr} (h : GP w S T F g) (hk : Ok g) (hmo : g.most ≤ 1000) (hnn : g.nodes.length ≤ 1000) (x : Op5) :
    Calls Try.prog 13 #[ptr S, opV x] w (SomeOp S T F (gPlay g x).1 (.tuple #[.int .i64 (gPlay g x).2.1, .bool (gPlay g x).2.2]) w) := by
  obtain ⟨d, m, a, i, b⟩ := x
  have H := Lib.hid (gp_below h (below_alloc0 (Below.refl _ _) (.cells #[.int .u8 d, .int .i64 m, .int .i64 a, .int .i64 i, .int .i64 b] 31)))
  have HT := Lib.hid (gp_lt h); have HF := Lib.hid (gp_sub h)
  have HOK := Lib.hid hk; have HMO := Lib.hid hmo; have HNN := Lib.hid hnn
  clear h hk hmo hnn
  by_cases d0 : d = 0
  · subst d0
    obtain ⟨r, hr⟩ : ∃ r, r = gAlloc g m i := ⟨_, rfl⟩
    have e : gPlay g ⟨0, m, a, i, b⟩ = r := hr.symm
    rw [e]
    have HR := Lib.hid hr.symm
    clear e hr
    go_enter Try.func13, Try.ntmps13
    go_wp2_with (first
      | (go_at_call 29; (with_reducible refine (alloc_p H.out HOK.out HMO.out HNN.out m i).mono ?_); rintro r1 w1 hop; rw [HR.out] at hop; have HOP := Lib.hid (some_alloc hop HT.out HF.out); obtain ⟨_, _, rfl, -⟩ := hop)
      | fail)
    go_ret2
    exact some_tuple HOP.out rfl
  by_cases d1 : d = 1
  · subst d1
    obtain ⟨r, hr⟩ : ∃ r, r = gRead g m a i := ⟨_, rfl⟩
    have e : gPlay g ⟨1, m, a, i, b⟩ = r := hr.symm
    rw [e]
    have HR := Lib.hid hr.symm
    clear e hr d0
    go_enter Try.func13, Try.ntmps13
    go_wp2_with (first
      | (go_at_call 27; (with_reducible refine (read_p H.out HOK.out HMO.out HNN.out m a i).mono ?_); rintro r1 w1 hop; rw [HR.out] at hop; have HOP := Lib.hid (some_alloc hop HT.out HF.out); obtain ⟨_, _, rfl, -⟩ := hop)
      | fail)
    go_ret2
    exact some_tuple HOP.out rfl
  by_cases d2 : d = 2
  · subst d2
    obtain ⟨r, hr⟩ : ∃ r, r = gWrite g m a i b := ⟨_, rfl⟩
    have e : gPlay g ⟨2, m, a, i, b⟩ = (r.1, 0, r.2) := by rw [hr]; rfl
    rw [e]
    have HR := Lib.hid hr.symm
    clear e hr d0 d1
    go_enter Try.func13, Try.ntmps13
    go_wp2_with (first
      | (go_at_call 26; (with_reducible refine (write_p H.out HOK.out HMO.out HNN.out m a i b).mono ?_); rintro r1 w1 hop; rw [HR.out] at hop; have HOP := Lib.hid (some_alloc hop HT.out HF.out); obtain ⟨_, _, rfl, -⟩ := hop)
      | fail)
    go_ret2
    exact some_tuple HOP.out rfl
  by_cases d3 : d = 3
  · subst d3
    obtain ⟨r, hr⟩ : ∃ r, r = gPop g m := ⟨_, rfl⟩
    have e : gPlay g ⟨3, m, a, i, b⟩ = (r.1, 0, r.2) := by rw [hr]; rfl
    rw [e]
    have HR := Lib.hid hr.symm
    clear e hr d0 d1 d2
    go_enter Try.func13, Try.ntmps13
    go_wp2_with (first
      | (go_at_call 25; (with_reducible refine (pop_p H.out HOK.out HMO.out HNN.out m).mono ?_); rintro r1 w1 hop; rw [HR.out] at hop; have HOP := Lib.hid (some_alloc hop HT.out HF.out); obtain ⟨_, _, rfl, -⟩ := hop)
      | fail)
    go_ret2
    exact some_tuple HOP.out rfl
  obtain ⟨r, hr⟩ : ∃ r, r = gDup g m a := ⟨_, rfl⟩
  have e : gPlay g ⟨d, m, a, i, b⟩ = (r.1, 0, r.2) := by rw [hr]; unfold gPlay; rw [if_neg d0, if_neg d1, if_neg d2, if_neg d3]
  rw [e]
  have HR := Lib.hid hr.symm
  have t0 : (d == 0) = false := by simpa using d0
  have t1 : (d == 1) = false := by simpa using d1
  have t2 : (d == 2) = false := by simpa using d2
  have t3 : (d == 3) = false := by simpa using d3
  clear e hr d0 d1 d2 d3
  go_enter Try.func13, Try.ntmps13
  go_wp2_with (first
    | (go_at_call 28; (with_reducible refine (dup_p H.out HOK.out HMO.out HNN.out m a).mono ?_); rintro r1 w1 hop; rw [HR.out] at hop; have HOP := Lib.hid (some_alloc hop HT.out HF.out); obtain ⟨_, _, rfl, -⟩ := hop)
    | fail)
  go_ret2
  exact some_tuple HOP.out rfl

/-- A graph of the call's own. -/
structure GOwn (w0 w : World) (S : Nat) (T F : Nat → Prop) (g : Gr) : Prop where
  gp : GP w S T F g
  bel : Below w0.heap.size w0 w
  lo : ∀ k, F k → w0.heap.size ≤ k
  ok : Ok g
  mo : g.most ≤ 1000
section
variable {w0 w w' : World} {S : Nat} {T F T' F' : Nat → Prop} {g g' : Gr}
theorem GOwn.of_new (hb : Below w0.heap.size w0 w) (hg : GP w' S T F g) (hb' : Below w.heap.size w w') (hT : ∀ k, T k → w.heap.size ≤ k) (hk : Ok g) (hmo : g.most ≤ 1000) : GOwn w0 w' S T F g :=
  ⟨hg, below_step hb hb.size hb', fun k hf => Nat.le_trans hb.size (hT k (gp_sub hg k hf)), hk, hmo⟩
theorem GOwn.op (h : GOwn w0 w S T F g) (hg : GP w' S T' F' g') (hu : UpdF F w w') (hF : ∀ k, F' k → F k ∨ w.heap.size ≤ k) (hk : Ok g') (hmo : g'.most ≤ 1000) : GOwn w0 w' S T' F' g' :=
  ⟨hg, h.bel.trans ⟨hu.os, hu.tape, hu.output, hu.size, fun k hk2 => hu.block k (Nat.lt_of_lt_of_le hk2 h.bel.size) (fun hf => by have := h.lo k hf; omega)⟩,
    fun k hf => by
      rcases hF k hf with h1 | h1
      · exact h.lo k h1
      · exact Nat.le_trans h.bel.size h1, hk, hmo⟩
theorem GOwn.step (h : GOwn w0 w S T F g) (hb : Below w.heap.size w w') : GOwn w0 w' S T F g :=
  ⟨gp_below h.gp hb, below_step h.bel h.bel.size hb, h.lo, h.ok, h.mo⟩
theorem GOwn.play (h : GOwn w0 w S T F g) (x : Op5) (hg : GP w' S T' F' (gPlay g x).1) (hu : UpdF F w w') (hF : ∀ k, F' k → F k ∨ w.heap.size ≤ k) : GOwn w0 w' S T' F' (gPlay g x).1 :=
  h.op hg hu hF (ok_play h.ok x) (by rw [(play_near g x).2.2.2]; exact h.mo)
end
end Go.Proofs.Ytjnkcomedcbenaa
