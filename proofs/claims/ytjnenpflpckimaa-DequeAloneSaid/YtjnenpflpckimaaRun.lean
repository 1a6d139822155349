/- A store of the call's own, and machines over it: one that runs alone, some that go on side by side. -/
import Derived.Test.YtjnenpflpckimaaBegin
namespace Go.Proofs.Ytjnenpflpckimaa
open Go.RowKit
set_option linter.unusedVariables false
set_option linter.unusedSimpArgs false
attribute [local irreducible] runs
variable {B S D E M : Nat} {w0 w w' : World} {L : List Int} {k : Int} {m : Mc}

/-- A store of the call's own, behind a box with a deque's ends; k: how many accesses there were at most. -/
structure Ok (B S D E : Nat) (w0 w : World) (e : En) (L : List Int) (k : Int) : Prop where
  own : ∃ c, 0 ≤ c ∧ c ≤ k ∧ Own B S D w0 w L c
  box : w.heap[E]? = some (.cells #[.int .i64 e.top, .int .i64 e.bot, .int .i64 e.ent, .int .i64 e.room] 25 (0, 0))
  s : E < S
  d : E < D
theorem Ok.bel {e : En} (h : Ok B S D E w0 w e L k) : Below B w0 w := by obtain ⟨c, _, _, h⟩ := h.own; exact h.bel
theorem Ok.ltS {e : En} (h : Ok B S D E w0 w e L k) : S < w.heap.size ∧ D < w.heap.size := by obtain ⟨c, _, _, h⟩ := h.own; exact ⟨h.st.ltS, h.st.row.lt⟩
theorem Ok.ltE {e : En} (h : Ok B S D E w0 w e L k) : E < w.heap.size := (Array.getElem?_eq_some_iff.1 h.box).1
theorem Ok.step {e : En} (h : Ok B S D E w0 w e L k) (hb : Below w.heap.size w w') : Ok B S D E w0 w' e L k := by
  obtain ⟨c, h0, h1, o⟩ := h.own
  exact ⟨⟨c, h0, h1, o.step hb⟩, (hb.block E h.ltE).trans h.box, h.s, h.d⟩
theorem Ok.more {e : En} (h : Ok B S D E w0 w e L k) {k' : Int} (hk : k ≤ k') : Ok B S D E w0 w e L k' := by
  obtain ⟨c, h0, h1, o⟩ := h.own
  exact ⟨⟨c, h0, by omega, o⟩, h.box, h.s, h.d⟩
/-- Others of the call's own change, behind the store. -/
theorem Ok.upd {e : En} (h : Ok B S D E w0 w e L k) {b : Nat} (u : Upd b b w w') (hS : S < b) (hD : D < b) : Ok B S D E w0 w' e L k := by
  obtain ⟨c, h0, h1, o⟩ := h.own
  have := h.s
  refine ⟨⟨c, h0, h1, o.1, o.2.1, o.2.2.1, o.st.upd u (by omega) (by omega) (by omega) (by omega), below_upd o.bel o.2.2.1 u ?_ ?_⟩, (u.block E h.ltE (by omega) (by omega)).trans h.box, h.s, h.d⟩ <;> have := o.1 <;> omega
theorem Ok.cells {e : En} (h : Ok B S D E w0 w e L k) : w.cell? ⟨E, 0, none⟩ = some (.int .i64 e.top) ∧ w.cell? ⟨E, 1, none⟩ = some (.int .i64 e.bot) ∧ w.cell? ⟨E, 2, none⟩ = some (.int .i64 e.ent) ∧ w.cell? ⟨E, 3, none⟩ = some (.int .i64 e.room) := by
  refine ⟨?_, ?_, ?_, ?_⟩ <;> simp [World.cell?, h.box]
theorem Ok.mi {e : En} (h : Ok B S D E w0 w e L k) (hm : MM w M m) (hS : S < M) (hD : D < M) : ∃ c, 0 ≤ c ∧ c ≤ k ∧ Mi w w M S D m L c := by
  obtain ⟨c, h0, h1, o⟩ := h.own
  exact ⟨c, h0, h1, hm.mi o.st (by omega) (by omega)⟩
theorem Ok.of_mi {e : En} (h : Ok B S D E w0 w e L k) (hS : S < M) (hD : D < M) {L' : List Int} {c' k' : Int} {m' : Mc} (hm : Mi w w' M S D m' L' c') (h0 : 0 ≤ c') (h1 : c' ≤ k') : Ok B S D E w0 w' e L' k' := by
  obtain ⟨c, _, _, o⟩ := h.own
  have := h.s
  have := h.d
  have := o.1
  refine ⟨⟨c', h0, h1, o.1, o.2.1, o.2.2.1, hm.st, below_u3 o.bel o.2.2.1 hm.u (by omega) o.1 o.2.1⟩, (hm.u.block E h.ltE (by omega) (by omega) (by omega)).trans h.box, h.s, h.d⟩

/-- A machine runs to its end. -/
theorem whole_ok {e : En} (h : Ok B S D E w0 w e L k) (hm : MM w M m) (hS : S < M) (hD : D < M) (ws : Ws L m) (hk : k ≤ 900000000) :
    Calls Try.prog 10 #[ptr M, ptr S] w fun a w' => a = .returned (.tuple #[.int .i64 (rOf (runs 8 L m).2), .int .u64 (xOf (runs 8 L m).2)]) ∧ Ok B S D E w0 w' e (runs 8 L m).1 (k + 8) ∧ U3 M S D w w' := by
  obtain ⟨c, h0, h1, mi⟩ := h.mi hm hS hD
  refine (whole_any (w0 := w) k w (On.start mi h0 h1) ws hk).mono ?_
  rintro a w2 ⟨rfl, w1, ⟨c', h2, h3, mi'⟩, hb⟩
  exact ⟨rfl, (h.of_mi hS hD mi' h2 (k' := k + 8) (by omega)).step hb, mi'.u.trans (.of_below hb)⟩
/-- A machine goes on by a step; others stay as they are. -/
theorem step_ok {e : En} (h : Ok B S D E w0 w e L k) (hm : MM w M m) (hS : S < M) (hD : D < M) (ws : Ws L m) (hk : k ≤ 900000000) :
    Calls Try.prog 14 #[ptr M, ptr S] w fun a w' => a = .returned (.bool (decide ((stp L m).2.pc = 0))) ∧ Ok B S D E w0 w' e (stp L m).1 (k + 1) ∧ MM w' M (stp L m).2 ∧ U3 M S D w w' := by
  obtain ⟨c, h0, h1, mi⟩ := h.mi hm hS hD
  refine (step_any w mi ws.wf h0 (by omega)).mono ?_
  rintro a w1 ⟨rfl, mi'⟩
  have := cst_le m c
  exact ⟨rfl, h.of_mi hS hD mi' (k' := k + 1) (by omega) (by omega), mi'.mm, mi'.u⟩
theorem load_ok {e : En} (h : Ok B S D E w0 w e L k) (at' : Int) (hk : k ≤ 900000000) :
    Calls Try.prog 20 #[ptr S, .int .i64 at'] w fun a w' => a = .returned (.int .u64 (ldq L at')) ∧ Ok B S D E w0 w' e L (k + 1) ∧ Upd S D w w' := by
  obtain ⟨c, h0, h1, o⟩ := h.own
  refine (load_any at' w o.st h0 (by omega)).mono ?_
  rintro a w1 ⟨rfl, l⟩
  have := h.s
  have := h.d
  exact ⟨by rw [ldv_eq], ⟨⟨c + 1, by omega, by omega, o.left l⟩, (l.2.block E h.ltE (by omega) (by omega)).trans h.box, h.s, h.d⟩, l.2⟩
/-- A new one: behind the store. -/
theorem Ok.new {e : En} (h : Ok B S D E w0 w e L k) (hM : w.heap.size ≤ M) : S < M ∧ D < M := by have := h.ltS; omega

/-- What came of a machine, in words of the pure one. -/
theorem rOf_no (h : m.pc = 0) : rOf m = m.out ∧ xOf m = m.w := by simp [rOf, xOf, h]

/-- The store is new. -/
theorem Ok.start {e : En} {w1 : World} {L : List Int} {a : Ending} (hb : Below B w0 w) (hB : B ≤ w0.heap.size) (hE : w.heap[E]? = some (.cells #[.int .i64 e.top, .int .i64 e.bot, .int .i64 e.ent, .int .i64 e.room] 25 (0, 0)))
    (h : SomeNew w L a w1) : ∃ S D, a = .returned (ptr S) ∧ Ok B S D E w0 w1 e L 0 := by
  obtain ⟨S, D, rfl, hS, hD, hs, hb'⟩ := h
  have hl : E < w.heap.size := (Array.getElem?_eq_some_iff.1 hE).1
  exact ⟨S, D, rfl, ⟨0, by omega, by omega, Own.of_new hb hB hS hD hs hb'⟩, (hb'.block E hl).trans hE, by omega, by omega⟩
/-- Another store's machine goes on. -/
theorem Ok.u3 {e : En} {M' S' D' : Nat} (h : Ok B S D E w0 w e L k) (u : U3 M' S' D' w w') (hM : E < M' ∧ S < M' ∧ D < M') (hS : E < S' ∧ E < D') (n : S ≠ S' ∧ S ≠ D' ∧ D ≠ S' ∧ D ≠ D') (hB : B ≤ S' ∧ B ≤ D') : Ok B S D E w0 w' e L k := by
  obtain ⟨c, h0, h1, o⟩ := h.own
  have hs := o.st
  have hB0 := o.1
  refine ⟨⟨c, h0, h1, o.1, o.2.1, o.2.2.1, ⟨hs.ne, (u.block S hs.ltS (by omega) (by omega) (by omega)).trans hs.top, (u.block D hs.row.lt (by omega) (by omega) (by omega)).trans hs.row⟩, below_u3 o.bel o.2.2.1 u (by omega) hB.1 hB.2⟩, (u.block E h.ltE (by omega) (by omega) (by omega)).trans h.box, h.s, h.d⟩
theorem Ok.lo {e : En} (h : Ok B S D E w0 w e L k) : B ≤ S ∧ B ≤ D := by obtain ⟨c, h0, h1, o⟩ := h.own; exact ⟨o.1, o.2.1⟩

/-- Two stores, the one behind the other. -/
structure O2 (B S D S' D' E : Nat) (w0 w : World) (e : En) (L : List Int) (k : Int) (R : List Int) (k' : Int) : Prop where
  one : Ok B S D E w0 w e L k
  two : Ok B S' D' E w0 w e R k'
  n : S < S' ∧ S < D' ∧ D < S' ∧ D < D'
section
variable {S' D' : Nat} {e : En} {R : List Int} {k' : Int}
theorem O2.step (h : O2 B S D S' D' E w0 w e L k R k') (hb : Below w.heap.size w w') : O2 B S D S' D' E w0 w' e L k R k' := ⟨h.one.step hb, h.two.step hb, h.n⟩
theorem O2.new (h : O2 B S D S' D' E w0 w e L k R k') (hM : w.heap.size ≤ M) : S' < M ∧ D' < M := h.two.new hM
theorem O2.whole1 (h : O2 B S D S' D' E w0 w e L k R k') (hm : MM w M m) (hM : S' < M ∧ D' < M) (ws : Ws L m) (hk : k ≤ 900000000) :
    Calls Try.prog 10 #[ptr M, ptr S] w fun a w' => a = .returned (.tuple #[.int .i64 (rOf (runs 8 L m).2), .int .u64 (xOf (runs 8 L m).2)]) ∧ O2 B S D S' D' E w0 w' e (runs 8 L m).1 (k + 8) R k' ∧ U3 M S D w w' := by
  have n := h.n
  have lo := h.one.lo
  have s1 := h.one.s; have d1 := h.one.d; have s2 := h.two.s; have d2 := h.two.d
  refine (whole_ok h.one hm (by omega) (by omega) ws hk).mono ?_
  rintro a w1 ⟨rfl, ho, u⟩
  exact ⟨rfl, ⟨ho, h.two.u3 u (by omega) (by omega) (by omega) lo, n⟩, u⟩
theorem O2.whole2 (h : O2 B S D S' D' E w0 w e L k R k') (hm : MM w M m) (hM : S' < M ∧ D' < M) (ws : Ws R m) (hk : k' ≤ 900000000) :
    Calls Try.prog 10 #[ptr M, ptr S'] w fun a w' => a = .returned (.tuple #[.int .i64 (rOf (runs 8 R m).2), .int .u64 (xOf (runs 8 R m).2)]) ∧ O2 B S D S' D' E w0 w' e L k (runs 8 R m).1 (k' + 8) ∧ U3 M S' D' w w' := by
  have n := h.n
  have lo := h.two.lo
  have s1 := h.one.s; have d1 := h.one.d; have s2 := h.two.s; have d2 := h.two.d
  refine (whole_ok h.two hm (by omega) (by omega) ws hk).mono ?_
  rintro a w1 ⟨rfl, ho, u⟩
  exact ⟨rfl, ⟨h.one.u3 u (by omega) (by omega) (by omega) lo, ho, n⟩, u⟩
theorem O2.load1 (h : O2 B S D S' D' E w0 w e L k R k') (at' : Int) (hk : k ≤ 900000000) :
    Calls Try.prog 20 #[ptr S, .int .i64 at'] w fun a w' => a = .returned (.int .u64 (ldq L at')) ∧ O2 B S D S' D' E w0 w' e L (k + 1) R k' := by
  have n := h.n
  have lo := h.one.lo
  have s1 := h.one.s; have d1 := h.one.d; have s2 := h.two.s; have d2 := h.two.d
  refine (load_ok h.one at' hk).mono ?_
  rintro a w1 ⟨rfl, ho, u⟩
  have u3 : U3 (w.heap.size + S' + D') S D w w1 := .of_upd u
  exact ⟨rfl, ho, h.two.u3 u3 (by have := h.two.ltS; omega) (by omega) (by omega) lo, n⟩
theorem O2.load2 (h : O2 B S D S' D' E w0 w e L k R k') (at' : Int) (hk : k' ≤ 900000000) :
    Calls Try.prog 20 #[ptr S', .int .i64 at'] w fun a w' => a = .returned (.int .u64 (ldq R at')) ∧ O2 B S D S' D' E w0 w' e L k R (k' + 1) := by
  have n := h.n
  have lo := h.two.lo
  have s1 := h.one.s; have d1 := h.one.d; have s2 := h.two.s; have d2 := h.two.d
  refine (load_ok h.two at' hk).mono ?_
  rintro a w1 ⟨rfl, ho, u⟩
  have u3 : U3 (w.heap.size + S' + D') S' D' w w1 := .of_upd u
  exact ⟨rfl, h.one.u3 u3 (by have := h.two.ltS; omega) (by omega) (by omega) lo, ho, n⟩
theorem O2.more (h : O2 B S D S' D' E w0 w e L k R k') {j j' : Int} (h1 : k ≤ j) (h2 : k' ≤ j') : O2 B S D S' D' E w0 w e L j R j' := ⟨h.one.more h1, h.two.more h2, h.n⟩
end
end Go.Proofs.Ytjnenpflpckimaa
