/- A machine that is begun, and one that runs to its end, walked. -/
import Derived.Test.YtjnenpflpckimaaStep
namespace Go.Proofs.Ytjnenpflpckimaa
open Go.RowKit
set_option linter.unusedVariables false
set_option linter.unusedSimpArgs false
variable {w0 : World} {M S D : Nat} {m : Mc} {L : List Int} {c : Int}

abbrev enV (e : En) : Value := .agg #[.int .i64 e.top, .int .i64 e.bot, .int .i64 e.ent, .int .i64 e.room]
/-- A machine in new memory. -/
def NewM (w : World) (m : Mc) (a : Ending) (w' : World) : Prop := ∃ M, a = .returned (ptr M) ∧ w.heap.size ≤ M ∧ MM w' M m ∧ Below w.heap.size w w'

theorem new_m {e : En} {v : Int} {m : Mc} {g : Nat} (hm : m.e = e ∧ nfn m = g ∧ m.pc = 1 ∧ m.t = 0 ∧ m.b = 0 ∧ m.w = v) (w : World) (o : Obj) (R : Int) (hR : R = roomOf e) :
    NewM w m (.returned (ptr (w.heap.size + 1))) ((w.alloc o).alloc (.cells #[.int .i64 e.top, .int .i64 e.bot, .int .i64 e.ent, .int .i64 R, fnv g (w.heap.size + 1), .int .u64 0, .int .u64 0, .int .u64 v, .int .i64 0, .int .u64 0] 63)) := by
  obtain ⟨rfl, rfl, hp, h1, h2, rfl⟩ := hm
  subst hR
  refine ⟨w.heap.size + 1, rfl, by omega, ⟨0, 0, m.w, ?_, fun _ => ⟨h1.symm, h2.symm, rfl⟩⟩, below_alloc0 (below_alloc0 (Below.refl _ _) _) _⟩
  have hn : nxt (w.heap.size + 1) m = fnv (nfn m) (w.heap.size + 1) := nxt_at (by omega)
  have hr : rOf m = 0 := by simp [rOf, hp]
  have hx : xOf m = 0 := by simp [xOf, hp]
  unfold Mem
  rw [hn, hr, hx]
  have key : ∀ X : Obj, ((w.heap.push o).push X)[w.heap.size + 1]? = some X := by
    intro X
    have e : w.heap.size + 1 = (w.heap.push o).size := by simp
    rw [e]; exact Array.getElem?_push_size
  exact key _

set_option maxHeartbeats 1000000 in
theorem begun_any (f g : Nat) (hf : f = 23 ∧ g = 30 ∨ f = 24 ∧ g = 31 ∨ f = 25 ∧ g = 32) (e : En) (v : Int) (m : Mc) (hm : m.e = e ∧ nfn m = g ∧ m.pc = 1 ∧ m.t = 0 ∧ m.b = 0 ∧ m.w = v) (w : World) :
    Calls Try.prog 22 #[enV e, .int .u64 v, .func (.func f) #[] #[]] w (NewM w m) := by
  have HM := Lib.hid hm
  clear hm
  have hmf : ∀ (fn : Fn) (first cap : Array Value) (w : World), (Instr.makeFunc fn first cap).run Try.prog w = .ok (.func fn first cap) w := fun _ _ _ _ => rfl
  by_cases hr : e.room < 1
  · rcases hf with ⟨rfl, rfl⟩ | ⟨rfl, rfl⟩ | ⟨rfl, rfl⟩
    all_goals
      go_enter Try.func22, Try.ntmps22
      go_wp2
      go_ret
      exact new_m HM.out w _ 1 (by unfold roomOf; split <;> omega)
  · rcases hf with ⟨rfl, rfl⟩ | ⟨rfl, rfl⟩ | ⟨rfl, rfl⟩
    all_goals
      go_enter Try.func22, Try.ntmps22
      go_wp2
      go_ret
      exact new_m HM.out w _ e.room (by unfold roomOf; split <;> omega)

theorem newM_step {w w1 w' : World} {m : Mc} {a : Ending} (hb : Below w.heap.size w w1) (h : NewM w1 m a w') : NewM w m a w' := by
  obtain ⟨M, rfl, hM, hm, hb'⟩ := h
  exact ⟨M, rfl, Nat.le_trans hb.size hM, hm, below_step hb hb.size hb'⟩
theorem below_al (w : World) (o : Obj) : Below w.heap.size w (w.alloc o) := below_alloc0 (Below.refl _ _) o

set_option maxHeartbeats 1000000 in
theorem push_any (e : En) (v : Int) (w : World) : Calls Try.prog 11 #[enV e, .int .u64 v] w (NewM w (mPush e v)) := by
  go_enter Try.func11, Try.ntmps11
  go_wp2_with (first
    | (go_at_call 22; (with_reducible refine (begun_any 23 30 (.inl ⟨rfl, rfl⟩) e v (mPush e v) ⟨rfl, rfl, rfl, rfl, rfl, rfl⟩ _).mono ?_); intro a w1 hk; have HK := Lib.hid (newM_step (below_al w _) hk); obtain ⟨M, rfl, _, _, _⟩ := hk)
    | fail)
  go_ret
  exact HK.out
set_option maxHeartbeats 1000000 in
theorem pop_any (e : En) (w : World) : Calls Try.prog 12 #[enV e] w (NewM w (mPop e)) := by
  go_enter Try.func12, Try.ntmps12
  go_wp2_with (first
    | (go_at_call 22; (with_reducible refine (begun_any 24 31 (.inr (.inl ⟨rfl, rfl⟩)) e 0 (mPop e) ⟨rfl, rfl, rfl, rfl, rfl, rfl⟩ _).mono ?_); intro a w1 hk; have HK := Lib.hid (newM_step (below_al w _) hk); obtain ⟨M, rfl, _, _, _⟩ := hk)
    | fail)
  go_ret
  exact HK.out
set_option maxHeartbeats 1000000 in
theorem steal_any (e : En) (w : World) : Calls Try.prog 13 #[enV e] w (NewM w (mSteal e)) := by
  go_enter Try.func13, Try.ntmps13
  go_wp2_with (first
    | (go_at_call 22; (with_reducible refine (begun_any 25 32 (.inr (.inr ⟨rfl, rfl⟩)) e 0 (mSteal e) ⟨rfl, rfl, rfl, rfl, rfl, rfl⟩ _).mono ?_); intro a w1 hk; have HK := Lib.hid (newM_step (below_al w _) hk); obtain ⟨M, rfl, _, _, _⟩ := hk)
    | fail)
  go_ret
  exact HK.out

theorem runs_succ (k : Nat) (L : List Int) (m : Mc) : runs (k + 1) L m = runs k (stp L m).1 (stp L m).2 := rfl
theorem stp_runs (k : Nat) : ∀ (L : List Int) (m : Mc), stp (runs k L m).1 (runs k L m).2 = runs (k + 1) L m := by
  induction k with
  | zero => intro L m; rfl
  | succ k ih => intro L m; rw [runs_succ, ih, ← runs_succ]
theorem Ws.runs (k : Nat) : ∀ {L : List Int} {m : Mc}, Ws L m → Ws (Ytjnenpflpckimaa.runs k L m).1 (Ytjnenpflpckimaa.runs k L m).2 := by
  induction k with
  | zero => intro L m h; exact h
  | succ k ih => intro L m h; rw [runs_succ]; exact ih h.stp
attribute [local irreducible] runs

/-- A machine that has gone on for i steps. -/
def On (w0 w : World) (M S D : Nat) (m : Mc) (L : List Int) (i : Nat) (k : Int) : Prop := ∃ c, 0 ≤ c ∧ c ≤ k + i ∧ Mi w0 w M S D (runs i L m).2 (runs i L m).1 c
theorem On.start {w : World} (h : Mi w0 w M S D m L c) (h0 : 0 ≤ c) {k : Int} (hk : c ≤ k) : On w0 w M S D m L 0 k := ⟨c, h0, by omega, by unfold runs; exact h⟩
theorem on_step {w : World} {i : Nat} {k : Int} (h : On w0 w M S D m L i k) (ws : Ws L m) (hk : k + i ≤ 1000000000) :
    Calls Try.prog 14 #[ptr M, ptr S] w fun a w' => a = .returned (.bool (decide ((runs (i + 1) L m).2.pc = 0))) ∧ On w0 w' M S D m L (i + 1) k := by
  obtain ⟨c, h0, h1, h⟩ := h
  refine (step_any w h (ws.runs i).wf h0 (by omega)).mono ?_
  rintro a w' ⟨rfl, hm⟩
  rw [stp_runs] at hm ⊢
  have := cst_le (runs i L m).2 c
  exact ⟨rfl, _, by omega, by omega, hm⟩
theorem On.mm {w : World} {i : Nat} {k : Int} (h : On w0 w M S D m L i k) : MM w M (runs i L m).2 := by
  obtain ⟨c, h0, h1, h⟩ := h; exact h.mm

/-- What came of a machine that has run to its end. -/
def Ran (w0 : World) (M S D : Nat) (m : Mc) (L : List Int) (k : Int) (a : Ending) (w' : World) : Prop :=
  a = .returned (.tuple #[.int .i64 (rOf (runs 8 L m).2), .int .u64 (xOf (runs 8 L m).2)]) ∧ ∃ w1, On w0 w1 M S D m L 8 k ∧ Below w1.heap.size w1 w'

set_option maxHeartbeats 1000000 in
theorem whole_any (k : Int) (w : World) (h : On w0 w M S D m L 0 k) (ws : Ws L m) (hk : k ≤ 900000000) : Calls Try.prog 10 #[ptr M, ptr S] w (Ran w0 M S D m L k) := by
  have HO := Lib.hid h; have WS := Lib.hid ws
  clear h ws
  go_enter Try.func10, Try.ntmps10
  go_wp2
  refine wp_loop_rounds 9 ?_
  iterate 9
    all_goals try rw [rounds_succ]
    all_goals go_wp2_with (first
      | (go_at_call 14; (with_reducible refine (on_step HO.out WS.out (by omega)).mono ?_); rintro r w1 ⟨rfl, ho⟩; have HO := Lib.hid ho; clear ho)
      | (go_at_call 15; (with_reducible refine (res_any _ HO.out.mm).mono ?_); rintro r w2 ⟨rfl, hb⟩)
      | fail)
  go_ret2
  exact ⟨rfl, _, HO.out, hb⟩
end Go.Proofs.Ytjnenpflpckimaa
