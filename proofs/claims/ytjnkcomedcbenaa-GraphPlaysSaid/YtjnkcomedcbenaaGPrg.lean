/- What is asked of the program's graph by the laws: its operations, and what is told, as contracts. -/
import Derived.Test.YtjnkcomedcbenaaPReach
namespace Go.Proofs.Ytjnkcomedcbenaa
open Go.RowKit
set_option linter.unusedVariables false

/-- A graph in memory: its block, the blocks that it is read from, those among them that may be written. -/
def GP (w : World) (S : Nat) (T F : Nat → Prop) (g : Gr) : Prop := ∃ R t rv sv N, PM w S R t rv sv N g ∧ (∀ k, F k ↔ t k ≠ .out) ∧ ∀ k, T k ↔ F k
theorem gp_lt {w : World} {S : Nat} {T F : Nat → Prop} {g : Gr} (h : GP w S T F g) : ∀ k, T k → k < w.heap.size := fun k hk => by
  obtain ⟨R, t, rv, sv, N, hp, hF, hT⟩ := h
  exact hp.low k ((hF k).1 ((hT k).1 hk))
theorem gp_sub {w : World} {S : Nat} {T F : Nat → Prop} {g : Gr} (h : GP w S T F g) : ∀ k, F k → T k := fun k hk => by
  obtain ⟨R, t, rv, sv, N, hp, hF, hT⟩ := h
  exact (hT k).2 hk
theorem gp_kept {w w' : World} {S : Nat} {T F : Nat → Prop} {g : Gr} (h : GP w S T F g) (hs : w.heap.size ≤ w'.heap.size) (hk : ∀ k, T k → w'.heap[k]? = w.heap[k]?) : GP w' S T F g := by
  obtain ⟨R, t, rv, sv, N, hp, hF, hT⟩ := h
  exact ⟨R, t, rv, sv, N, hp.kept ⟨hs, fun k _ ht => hk k ((hT k).2 ((hF k).2 ht))⟩, hF, hT⟩
def SomeOp (S : Nat) (T F : Nat → Prop) (g' : Gr) (r : Value) (w : World) (e : Ending) (w' : World) : Prop :=
  ∃ T' F', e = .returned r ∧ GP w' S T' F' g' ∧ UpdF F w w' ∧ (∀ k, T' k → T k ∨ w.heap.size ≤ k) ∧ (∀ k, F' k → F k ∨ w.heap.size ≤ k)
def SomeNewG (w : World) (g : Gr) (e : Ending) (w' : World) : Prop :=
  ∃ S T F, e = .returned (ptr S) ∧ GP w' S T F g ∧ Below w.heap.size w w' ∧ ∀ k, T k → w.heap.size ≤ k
/-- A number that is no negative one, and no great one. -/
def Bd (x : Int) : Prop := 0 ≤ x ∧ x ≤ 1000000
/-- A list that is told: no later operation writes it. -/
def SomeRow (F : Nat → Prop) (zs : List Int) (w : World) (e : Ending) (w' : World) : Prop :=
  ∃ v, e = .returned v ∧ RowV (fun k => ¬ F k) w' v zs ∧ Below w.heap.size w w'
/-- A list that is told: in blocks of the graph that are written no more, or anew. -/
def SomeRowT (T F : Nat → Prop) (zs : List Int) (w : World) (e : Ending) (w' : World) : Prop :=
  ∃ v, e = .returned v ∧ RowV (fun k => ¬ F k ∧ (T k ∨ w.heap.size ≤ k)) w' v zs ∧ Below w.heap.size w w'
section
variable {w w' : World} {S : Nat} {T F : Nat → Prop} {g g' : Gr} {e : Ending} {r : Value} {zs : List Int}
theorem op_of {R : Nat} {t : Nat → Tag} (hF : ∀ k, F k ↔ t k ≠ .out) (hT : ∀ k, T k ↔ F k) (h : SomeP S R t g' r w e w') : SomeOp S T F g' r w e w' := by
  obtain ⟨t', rv', sv', N', he, hp, hu, ho, hn⟩ := h
  have hnew : ∀ k, t' k ≠ .out → F k ∨ w.heap.size ≤ k := fun k hk => (hn k hk).imp (fun h => (hF k).2 h) id
  exact ⟨fun k => t' k ≠ .out, fun k => t' k ≠ .out, he, ⟨R, t', rv', sv', N', hp, fun _ => Iff.rfl, fun _ => Iff.rfl⟩, ⟨hu.os, hu.tape, hu.output, hu.size, fun k hk hn => hu.block k hk fun h => hn ((hF k).2 h)⟩, fun k hk => (hnew k hk).imp (fun h => (hT k).2 h) id, hnew⟩
theorem rowT_of (hg : GP w S T F g) (h : SomeRowN zs w e w') : SomeRowT T F zs w e w' := by
  obtain ⟨v, he, hr, hb⟩ := h
  exact ⟨v, he, hr.to fun b _ hb => ⟨fun hf => by have := gp_lt hg b (gp_sub hg b hf); omega, .inr hb⟩, hb⟩
theorem row_of (hg : GP w S T F g) (h : SomeRowN zs w e w') : SomeRow F zs w e w' := by
  obtain ⟨v, he, hr, hb⟩ := rowT_of hg h
  exact ⟨v, he, hr.to fun b _ hb => hb.1, hb⟩
theorem new_p (mu mo sl : Int) (w : World) (h : mo ≤ 1000) : Calls Try.prog 11 #[.int .i64 mu, .int .i64 mo, .int .i64 sl] w (SomeNewG w (gNew mu (max mo 0) sl)) :=
  (newP mu mo sl w h).mono fun e w' ⟨S, R, t, rv, sv, N, he, hp, hb, hl⟩ => ⟨S, fun k => t k ≠ .out, fun k => t k ≠ .out, he, ⟨R, t, rv, sv, N, hp, fun _ => Iff.rfl, fun _ => Iff.rfl⟩, hb, hl⟩
theorem alloc_p (h : GP w S T F g) (hk : Ok g) (hmo : g.most ≤ 1000) (hnn : g.nodes.length ≤ 1000) (m n : Int) : Calls Try.prog 29 #[ptr S, .int .i64 m, .int .i64 n] w (SomeOp S T F (gAlloc g m n).1 (.tuple #[.int .i64 (gAlloc g m n).2.1, .bool (gAlloc g m n).2.2]) w) := by
  obtain ⟨R, t, rv, sv, N, hp, hF, hT⟩ := h
  exact (allocP hp hk hmo hnn m n).mono fun e w' hs => op_of hF hT hs
theorem read_p (h : GP w S T F g) (hk : Ok g) (hmo : g.most ≤ 1000) (hnn : g.nodes.length ≤ 1000) (m a i : Int) : Calls Try.prog 27 #[ptr S, .int .i64 m, .int .i64 a, .int .i64 i] w (SomeOp S T F (gRead g m a i).1 (.tuple #[.int .i64 (gRead g m a i).2.1, .bool (gRead g m a i).2.2]) w) := by
  obtain ⟨R, t, rv, sv, N, hp, hF, hT⟩ := h
  exact (readP hp hk hmo hnn m a i).mono fun e w' hs => op_of hF hT hs
theorem write_p (h : GP w S T F g) (hk : Ok g) (hmo : g.most ≤ 1000) (hnn : g.nodes.length ≤ 1000) (m a i b : Int) : Calls Try.prog 26 #[ptr S, .int .i64 m, .int .i64 a, .int .i64 i, .int .i64 b] w (SomeOp S T F (gWrite g m a i b).1 (.bool (gWrite g m a i b).2) w) := by
  obtain ⟨R, t, rv, sv, N, hp, hF, hT⟩ := h
  exact (writeP hp hk hnn m a i b).mono fun e w' hs => op_of hF hT hs
theorem pop_p (h : GP w S T F g) (hk : Ok g) (hmo : g.most ≤ 1000) (hnn : g.nodes.length ≤ 1000) (m : Int) : Calls Try.prog 25 #[ptr S, .int .i64 m] w (SomeOp S T F (gPop g m).1 (.bool (gPop g m).2) w) := by
  obtain ⟨R, t, rv, sv, N, hp, hF, hT⟩ := h
  exact (popP hp hmo hk m).mono fun e w' hs => op_of hF hT hs
theorem dup_p (h : GP w S T F g) (hk : Ok g) (hmo : g.most ≤ 1000) (hnn : g.nodes.length ≤ 1000) (m a : Int) : Calls Try.prog 28 #[ptr S, .int .i64 m, .int .i64 a] w (SomeOp S T F (gDup g m a).1 (.bool (gDup g m a).2) w) := by
  obtain ⟨R, t, rv, sv, N, hp, hF, hT⟩ := h
  exact (dupP hp hk hmo m a).mono fun e w' hs => op_of hF hT hs
theorem roots_n (h : GP w S T F g) (hk : Ok g) (hmo : g.most ≤ 1000) (m : Int) : Calls Try.prog 23 #[ptr S, .int .i64 m] w (SomeRowN (if isIn g.roots.length m = true then row g.roots m.toNat else []) w) := by
  obtain ⟨R, t, rv, sv, N, hp, hF, hT⟩ := h
  exact rootsP hp hk hmo m
theorem slots_n (h : GP w S T F g) (hk : Ok g) (v : Int) (h0 : 0 ≤ v) (h1 : v ≤ 1000000) : Calls Try.prog 24 #[ptr S, .int .i64 v] w (SomeRowN (if isIn g.nodes.length (v - 1) = true then row g.nodes (v - 1).toNat else []) w) := by
  obtain ⟨R, t, rv, sv, N, hp, hF, hT⟩ := h
  exact slotsP hp hk v h0 h1
theorem reach_n (h : GP w S T F g) (hk : Ok g) (hmo : g.most ≤ 1000) (hnn : g.nodes.length ≤ 1000) : Calls Try.prog 21 #[ptr S] w (SomeRowN (reachL g) w) := by
  obtain ⟨R, t, rv, sv, N, hp, hF, hT⟩ := h
  exact reachP hp hk hmo hnn
theorem roots_p (h : GP w S T F g) (hk : Ok g) (hmo : g.most ≤ 1000) (hnn : g.nodes.length ≤ 1000) (m : Int) : Calls Try.prog 23 #[ptr S, .int .i64 m] w (SomeRow F (if isIn g.roots.length m = true then row g.roots m.toNat else []) w) :=
  (roots_n h hk hmo m).mono fun e w' hs => row_of h hs
theorem slots_p (h : GP w S T F g) (hk : Ok g) (hmo : g.most ≤ 1000) (hnn : g.nodes.length ≤ 1000) (v : Int) (h0 : 0 ≤ v) (h1 : v ≤ 1000000) : Calls Try.prog 24 #[ptr S, .int .i64 v] w (SomeRow F (if isIn g.nodes.length (v - 1) = true then row g.nodes (v - 1).toNat else []) w) :=
  (slots_n h hk v h0 h1).mono fun e w' hs => row_of h hs
theorem nodes_p (h : GP w S T F g) (hk : Ok g) (hmo : g.most ≤ 1000) (hnn : g.nodes.length ≤ 1000) : Calls Try.prog 19 #[ptr S] w fun e w' => e = .returned (.int .i64 (g.nodes.length : Int)) ∧ Below w.heap.size w w' := by
  obtain ⟨R, t, rv, sv, N, hp, hF, hT⟩ := h
  exact (nodesP_any hp).mono fun e w' ⟨he, hw⟩ => ⟨he, hw ▸ Below.refl _ _⟩
theorem reach_p (h : GP w S T F g) (hk : Ok g) (hmo : g.most ≤ 1000) (hnn : g.nodes.length ≤ 1000) : Calls Try.prog 21 #[ptr S] w (SomeRow F (reachL g) w) :=
  (reach_n h hk hmo hnn).mono fun e w' hs => row_of h hs
theorem roots_t (h : GP w S T F g) (hk : Ok g) (hmo : g.most ≤ 1000) (hnn : g.nodes.length ≤ 1000) (m : Int) : Calls Try.prog 23 #[ptr S, .int .i64 m] w (SomeRowT T F (if isIn g.roots.length m = true then row g.roots m.toNat else []) w) :=
  (roots_n h hk hmo m).mono fun e w' hs => rowT_of h hs
theorem slots_t (h : GP w S T F g) (hk : Ok g) (hmo : g.most ≤ 1000) (hnn : g.nodes.length ≤ 1000) (v : Int) (h0 : 0 ≤ v) (h1 : v ≤ 1000000) : Calls Try.prog 24 #[ptr S, .int .i64 v] w (SomeRowT T F (if isIn g.nodes.length (v - 1) = true then row g.nodes (v - 1).toNat else []) w) :=
  (slots_n h hk v h0 h1).mono fun e w' hs => rowT_of h hs
theorem reach_t (h : GP w S T F g) (hk : Ok g) (hmo : g.most ≤ 1000) (hnn : g.nodes.length ≤ 1000) : Calls Try.prog 21 #[ptr S] w (SomeRowT T F (reachL g) w) :=
  (reach_n h hk hmo hnn).mono fun e w' hs => rowT_of h hs
end
end Go.Proofs.Ytjnkcomedcbenaa
