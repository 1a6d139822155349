/- What the roots were, kept in a row of the call's own; and popping all of them. -/
import Derived.Test.YtjnkcomedcbenaaGTwo
import Derived.Test.YtjnkcomedcbenaaGMore
namespace Go.Proofs.Ytjnkcomedcbenaa
open Go.RowKit
set_option linter.unusedVariables false

theorem roots_u {w0 w : World} {S : Nat} {T F : Nat → Prop} {g : Gr} (h : GOwn w0 w S T F g) (hnn : g.nodes.length ≤ 1000) (m : Int) : Calls Try.prog 23 #[ptr S, .int .i64 m] w (SomeRowT T F (rootsL g m) w) := roots_t h.gp h.ok h.mo hnn m
structure Was (w0 W wx : World) (S : Nat) (T F : Nat → Prop) (g : Gr) (v : Value) (vs : List Value) (ls : List (List Int)) : Prop where
  own : GOwn w0 W S T F g
  row : OwnV 43 W.heap.size W wx v vs
  rows : RowsV (fun k => ¬ F k ∧ v.ownBlock ≠ some k) wx vs ls
section
variable {w0 W wx w1 w2 : World} {S : Nat} {T F : Nat → Prop} {g : Gr} {v v2 u : Value} {vs : List Value} {ls : List (List Int)} {zs : List Int}
theorem Was.start (h : GOwn w0 W S T F g) : Was w0 W W S T F g (.slice none 0 0) [] [] := ⟨h, OwnV.nil (Below.refl _ _), rfl, fun j hj => by simp at hj⟩
theorem Was.now (h : Was w0 W wx S T F g v vs ls) : GOwn w0 wx S T F g := h.own.step h.row.2
theorem Was.app (h : Was w0 W wx S T F g v vs ls) (hb : Below wx.heap.size wx w1) (hu : RowV (fun k => ¬ F k ∧ (T k ∨ wx.heap.size ≤ k)) w1 u zs) {o : Obj}
    (ho2 : OwnV 43 W.heap.size W w2 v2 (vs ++ [u])) (hk2 : Kept (fun b => v.ownBlock ≠ some b) (w1.alloc o) w2) (hf : ∀ k, v2.ownBlock = some k → v.ownBlock = some k ∨ (w1.alloc o).heap.size ≤ k) :
    Was w0 W w2 S T F g v2 (vs ++ [u]) (ls ++ [zs]) := by
  have hsz := h.row.2.size
  have key : ∀ {x : Value} {ys : List Int}, RowV (fun k => ¬ F k ∧ v.ownBlock ≠ some k) w1 x ys → RowV (fun k => ¬ F k ∧ v2.ownBlock ≠ some k) w2 x ys := fun hx =>
    (((hx.kept (Kept.below (below_alloc0 (Below.refl _ _) o))).to (Q := fun k => (¬ F k ∧ v2.ownBlock ≠ some k) ∧ v.ownBlock ≠ some k) fun b hlt hp => ⟨⟨hp.1, fun e => by
      rcases hf b e with h1 | h1
      · exact hp.2 h1
      · omega⟩, hp.2⟩).kept ⟨hk2.1, fun k hk hp => hk2.2 k hk hp.2⟩).to fun b _ hp => hp.1
  refine ⟨h.own, ho2, RowsV.app ⟨h.rows.1, fun j hj => key ((h.rows.2 j hj).kept (Kept.below hb))⟩ (key (hu.to fun b hlt hp => ⟨hp.1, fun e => ?_⟩))⟩
  obtain ⟨h1, h2⟩ := h.row.1.lt b e
  rcases hp.2 with h3 | h3
  · have := gp_lt h.own.gp b h3; omega
  · omega
theorem Was.at' (h : Was w0 W wx S T F g v vs ls) : ∃ A c, v = .slice A ls.length c ∧ RowsAt (fun k => ¬ F k) wx A ls.length c ls :=
  h.row.rowsAt (h.rows.to fun b _ hp => hp.1) fun b hb hf => by
    have := gp_lt h.own.gp b (gp_sub h.own.gp b hf); omega
end
theorem rows_op {w w' : World} {F F' : Nat → Prop} {A : Option Addr} {n c : Nat} {ls : List (List Int)} (h : RowsAt (fun k => ¬ F k) w A n c ls) (hu : UpdF F w w') (hF : ∀ k, F' k → F k ∨ w.heap.size ≤ k) : RowsAt (fun k => ¬ F' k) w' A n c ls :=
  ((h.to (Q := fun k => ¬ F k ∧ ¬ F' k) fun b hlt hb => ⟨hb, fun hf => by
    rcases hF b hf with h1 | h1
    · exact hb h1
    · omega⟩).kept (hu.kept fun k h => h.1)).to fun b _ h => h.2
/-- What three mutators' roots are told as. -/
def was3 (g : Gr) : Nat → List (List Int)
  | 0 => []
  | m + 1 => was3 g m ++ [rootsL g m]
theorem was3_len (g : Gr) (m : Nat) : (was3 g m).length = m := by
  induction m with
  | zero => rfl
  | succ m ih => simp [was3, ih]
theorem was3_row (g : Gr) {m n : Nat} (h : m < n) : row (was3 g n) m = rootsL g m := by
  induction n with
  | zero => omega
  | succ n ih =>
    rw [was3, row_app, was3_len]
    by_cases e : m = n
    · rw [if_pos e, e]
    · rw [if_neg e]; exact ih (by omega)
theorem rootsL_own (g : Gr) (x : Op5) (m : Nat) (h : (m : Int) ≠ x.m) (hm : m < g.roots.length) : rootsL (gPlay g x).1 m = rootsL g m := by
  unfold rootsL
  rw [(play_near g x).2.2.1, show isIn g.roots.length (m : Int) = true from isIn_iff.2 (by omega), if_pos rfl, if_pos rfl]
  exact play_own g x m h hm

/-! Popping all. -/
structure Em (g : Gr) (m k : Nat) : Prop where
  r3 : g.roots.length = 3
  n : g.nodes.length ≤ 1000
  low : ∀ j, j < m → row g.roots j = []
  six : ∀ j, j < 3 → (row g.roots j).length ≤ 6
  len : m < 3 → (row g.roots m).length + k ≤ 6
theorem Em.start {g : Gr} (hk : Ok g) (h3 : g.roots.length = 3) (hn : g.nodes.length ≤ 1000) (hm : g.most ≤ 6) : Em g 0 0 :=
  ⟨h3, hn, fun j hj => by omega, fun j hj => by have := hk.len j (by omega); omega, fun _ => by have := hk.len 0 (by omega); omega⟩
theorem Em.pop {g g' : Gr} {m k : Nat} {b : Bool} (h : Em g m k) (hm : m < 3) (e : gPop g m = (g', b)) : Em g' m (k + 1) ∨ ((row g.roots m).length = 0 ∧ g' = g) := by
  by_cases h0 : 0 < (row g.roots m).length
  · left
    have hp : (isIn g.roots.length (m : Int) && decide (0 < (row g.roots (m : Int).toNat).length)) = true := by
      rw [isIn_iff.2 (by rw [h.r3]; omega), Int.toNat_natCast, decide_eq_true h0]; rfl
    unfold gPop at e
    rw [if_pos hp] at e
    obtain ⟨rfl, -⟩ := Prod.mk.inj e
    simp only [Int.toNat_natCast]
    refine ⟨by rw [List.length_set]; exact h.r3, h.n, fun j hj => ?_, fun j hj => ?_, fun _ => ?_⟩
    · rw [row_set, if_neg (by omega)]; exact h.low j hj
    · rw [row_set]; split
      · rw [List.length_dropLast]; have := h.six m hm; omega
      · exact h.six j hj
    · rw [row_set, if_pos ⟨rfl, by rw [h.r3]; exact hm⟩, List.length_dropLast]; have := h.len hm; omega
  · right
    have hz : (row g.roots m).length = 0 := by omega
    refine ⟨hz, ?_⟩
    unfold gPop at e
    rw [if_neg (by rw [Int.toNat_natCast, decide_eq_false h0]; simp)] at e
    exact (Prod.mk.inj e).1.symm
theorem Em.pop' {g g' : Gr} {m k : Nat} {b : Bool} (h : Em g m k) (hm : m < 3) (hk : k < 6) (e : gPop g m = (g', b)) : Em g' m (k + 1) := by
  rcases h.pop hm e with h1 | ⟨h1, rfl⟩
  · exact h1
  · exact ⟨h.r3, h.n, h.low, h.six, fun _ => by omega⟩
theorem Em.last {g : Gr} {m : Nat} (h : Em g m 6) (hm : m < 3) : gPop g m = (g, false) := by
  have hz : (row g.roots m).length = 0 := by have := h.len hm; omega
  unfold gPop
  rw [if_neg (by rw [Int.toNat_natCast, decide_eq_false (by omega)]; simp)]
theorem Em.next {g : Gr} {m : Nat} (h : Em g m 6) (hm : m < 3) : Em g (m + 1) 0 := by
  have hz : row g.roots m = [] := List.eq_nil_of_length_eq_zero (by have := h.len hm; omega)
  refine ⟨h.r3, h.n, fun j hj => ?_, h.six, fun h2 => by have := h.six (m + 1) h2; omega⟩
  by_cases e : j = m
  · rw [e, hz]
  · exact h.low j (by omega)
theorem Em.none {g : Gr} (h : Em g 3 0) : reachL g = [] := no_reach fun m a hm ha => by
  rw [h.low m (by have := h.r3; omega)] at ha
  simp at ha
end Go.Proofs.Ytjnkcomedcbenaa
