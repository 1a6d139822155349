/- Two of the program's graphs, of the call's own, apart from each other. -/
import Derived.Test.YtjnkcomedcbenaaGOps5
namespace Go.Proofs.Ytjnkcomedcbenaa
open Go.RowKit
set_option linter.unusedVariables false

structure TwoG (w0 w : World) (S : Nat) (T F : Nat → Prop) (g : Gr) (S2 : Nat) (T2 F2 : Nat → Prop) (g2 : Gr) : Prop where
  one : GOwn w0 w S T F g
  two : GOwn w0 w S2 T2 F2 g2
  n1 : ∀ k, T k → ¬ F2 k
  n2 : ∀ k, T2 k → ¬ F k
section
variable {w0 w w' : World} {S S2 : Nat} {T F T2 F2 T' F' : Nat → Prop} {g g2 g' : Gr}
theorem TwoG.step (h : TwoG w0 w S T F g S2 T2 F2 g2) (hb : Below w.heap.size w w') : TwoG w0 w' S T F g S2 T2 F2 g2 := ⟨h.one.step hb, h.two.step hb, h.n1, h.n2⟩
theorem TwoG.of_new (h : GOwn w0 w S T F g) (h2 : GOwn w0 w' S2 T2 F2 g2) (hb : Below w.heap.size w w') (hT : ∀ k, T2 k → w.heap.size ≤ k) : TwoG w0 w' S T F g S2 T2 F2 g2 := by
  have h1 := h.step hb
  refine ⟨h1, h2, fun k hk hf => ?_, fun k hk hf => ?_⟩
  · have a := gp_lt h.gp k hk
    have b := hT k (gp_sub h2.gp k hf)
    omega
  · have a := gp_lt h.gp k (gp_sub h.gp k hf)
    have b := hT k hk
    omega
theorem GOwn.far (h : GOwn w0 w S2 T2 F2 g2) (hu : UpdF F w w') (h2 : ∀ k, T2 k → ¬ F k) (hb : Below w0.heap.size w0 w') : GOwn w0 w' S2 T2 F2 g2 :=
  ⟨gp_kept h.gp hu.size fun k hk => hu.block k (gp_lt h.gp k hk) (h2 k hk), hb, h.lo, h.ok, h.mo⟩
theorem TwoG.left (h : TwoG w0 w S T F g S2 T2 F2 g2) (hg : GOwn w0 w' S T' F' g') (hu : UpdF F w w') (hF : ∀ k, F' k → F k ∨ w.heap.size ≤ k) (hT : ∀ k, T' k → T k ∨ w.heap.size ≤ k) : TwoG w0 w' S T' F' g' S2 T2 F2 g2 := by
  refine ⟨hg, h.two.far hu h.n2 hg.bel, fun k hk hf => ?_, fun k hk hf => ?_⟩
  · rcases hT k hk with h1 | h1
    · exact h.n1 k h1 hf
    · have := gp_lt h.two.gp k (gp_sub h.two.gp k hf); omega
  · rcases hF k hf with h1 | h1
    · exact h.n2 k hk h1
    · have := gp_lt h.two.gp k hk; omega
theorem TwoG.turn (h : TwoG w0 w S T F g S2 T2 F2 g2) : TwoG w0 w S2 T2 F2 g2 S T F g := ⟨h.two, h.one, h.n2, h.n1⟩
theorem TwoG.right (h : TwoG w0 w S T F g S2 T2 F2 g2) (hg : GOwn w0 w' S2 T' F' g') (hu : UpdF F2 w w') (hF : ∀ k, F' k → F2 k ∨ w.heap.size ≤ k) (hT : ∀ k, T' k → T2 k ∨ w.heap.size ≤ k) : TwoG w0 w' S T F g S2 T' F' g' :=
  (h.turn.left hg hu hF hT).turn
end
/-- What a mutator's roots are told as; a node's slots. -/
def rootsL (g : Gr) (m : Int) : List Int := if isIn g.roots.length m = true then row g.roots m.toNat else []
def slotsL (g : Gr) (v : Int) : List Int := if isIn g.nodes.length (v - 1) = true then row g.nodes (v - 1).toNat else []
theorem rootsL_le {g : Gr} (hk : Ok g) (h0 : 0 ≤ g.most) (m : Int) : ((rootsL g m).length : Int) ≤ g.most := by
  unfold rootsL
  split
  · rename_i h
    have := isIn_iff.1 h
    exact hk.len m.toNat (by omega)
  · simpa using h0
theorem slotsL_le {g : Gr} (hk : Ok g) (v : Int) : (slotsL g v).length ≤ 64 := by
  unfold slotsL
  split
  · rename_i h
    have := isIn_iff.1 h
    exact hk.sz _ (by omega)
  · simp
section
variable {w0 w : World} {S : Nat} {T F : Nat → Prop} {g : Gr}
theorem roots_q (h : GOwn w0 w S T F g) (hnn : g.nodes.length ≤ 1000) (m : Int) : Calls Try.prog 23 #[ptr S, .int .i64 m] w (SomeRow F (rootsL g m) w) := roots_p h.gp h.ok h.mo hnn m
theorem slots_q (h : GOwn w0 w S T F g) (hnn : g.nodes.length ≤ 1000) (v : Int) (hv : Bd v) : Calls Try.prog 24 #[ptr S, .int .i64 v] w (SomeRow F (slotsL g v) w) := slots_p h.gp h.ok h.mo hnn v hv.1 hv.2
theorem reach_q (h : GOwn w0 w S T F g) (hnn : g.nodes.length ≤ 1000) : Calls Try.prog 21 #[ptr S] w (SomeRow F (reachL g) w) := reach_p h.gp h.ok h.mo hnn
theorem nodes_q (h : GOwn w0 w S T F g) (hnn : g.nodes.length ≤ 1000) : Calls Try.prog 19 #[ptr S] w fun e w' => e = .returned (.int .i64 (g.nodes.length : Int)) ∧ Below w.heap.size w w' := nodes_p h.gp h.ok h.mo hnn
end
theorem reachL_le (g : Gr) : (reachL g).length ≤ g.nodes.length := reach_len g _
end Go.Proofs.Ytjnkcomedcbenaa
