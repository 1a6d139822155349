/- The line of those who wait, in memory: ahead, Less, Swap, Len, walked. -/
import Derived.Test.YtmeiohmdiklepaaSame
import Derived.StillTailTactics
import Derived.BigRegion
namespace Go.Proofs.Ytmeiohmdiklepaa
open Go.RowKit
set_option linter.unusedVariables false

structure Wt where
  who : Int
  per : Int
  due : Int

def Wt.v (x : Wt) : Value := .agg #[.int .i64 x.who, .int .i64 x.per, .int .i64 x.due]
/-- a's turn comes ahead of b's. -/
def ltB (a b : Wt) : Bool := decide (a.due < b.due) || (decide (a.due = b.due) && decide (a.who < b.who))
theorem lt_iff (a b : Wt) : ltB a b = true ↔ a.due < b.due ∨ (a.due = b.due ∧ a.who < b.who) := by simp [ltB]

set_option maxHeartbeats 1000000 in
theorem ahead_any (a0 a1 a2 b0 b1 b2 : Int) (w : World) : Calls Try.prog 20 #[.agg #[.int .i64 a0, .int .i64 a1, .int .i64 a2], .agg #[.int .i64 b0, .int .i64 b1, .int .i64 b2]] w fun e w' => e = .returned (.bool (ltB ⟨a0, a1, a2⟩ ⟨b0, b1, b2⟩)) ∧ Below w.heap.size w w' := by
  obtain ⟨q, hq⟩ : ∃ q, q = ltB ⟨a0, a1, a2⟩ ⟨b0, b1, b2⟩ := ⟨_, rfl⟩
  rw [← hq]
  have HQ := Lib.hid hq; clear hq
  by_cases h : a2 = b2
  · have ht : (a2 != b2) = false := by simp [h]
    have HE := Lib.hid h; clear h
    go_enter Try.func20, Try.ntmps20
    go_wp2
    go_ret
    exact ⟨ret_bool (by rw [HQ.out, Bool.eq_iff_iff, lt_iff]; have := HE.out; simp; omega), by go_grown⟩
  · have ht : (a2 != b2) = true := by simp [h]
    have HE := Lib.hid h; clear h
    go_enter Try.func20, Try.ntmps20
    go_wp2
    go_ret
    exact ⟨ret_bool (by rw [HQ.out, Bool.eq_iff_iff, lt_iff]; have := HE.out; simp; omega), by go_grown⟩

set_option maxHeartbeats 1000000 in
theorem less_raw (N n i j : Nat) (w : World) (hi : i < n) (hj : j < n) (hn : n ≤ 100) (x y : Wt) 
  (c0 : w.cell? ⟨N + 1, 0, none⟩ = some (.slice (some ⟨N,0,none⟩) n n)) (c1 : w.cell? ⟨N+1,1,none⟩ = some (.func (.func 20) #[] #[]))
  (x0 : w.cell? ⟨N, i * 3, none⟩ = some (.int .i64 x.who)) (x1 : w.cell? ⟨N, i * 3 + 1, none⟩ = some (.int .i64 x.per)) (x2 : w.cell? ⟨N, i * 3 + 2, none⟩ = some (.int .i64 x.due))
  (y0 : w.cell? ⟨N, j * 3, none⟩ = some (.int .i64 y.who)) (y1 : w.cell? ⟨N, j * 3 + 1, none⟩ = some (.int .i64 y.per)) (y2 : w.cell? ⟨N, j * 3 + 2, none⟩ = some (.int .i64 y.due))
  : Calls Try.prog 42 #[.pointer (some ⟨N+1, 0, none⟩), .int .i64 i, .int .i64 j] w fun e w' => e = .returned (.bool (ltB x y)) ∧ Below w.heap.size w w' := by
  have hi' : (i : Int) < (n : Int) := by omega
  have hj' : (j : Int) < (n : Int) := by omega
  have hi0 : (0 : Int) ≤ (i : Int) := by omega
  have hj0 : (0 : Int) ≤ (j : Int) := by omega
  obtain ⟨xa, xb, xc⟩ := x
  obtain ⟨ya, yb, yc⟩ := y
  obtain ⟨q, hq⟩ : ∃ q, q = ltB ⟨xa, xb, xc⟩ ⟨ya, yb, yc⟩ := ⟨_, rfl⟩
  have HC := ahead_any xa xb xc ya yb yc
  rw [← hq] at HC ⊢
  clear hq
  go_enter Try.func42, Try.ntmps42
  go_wp2
  go_still_tail 18, (by kernel_rfl)
  change wpList _ _ _ _ _ w.drew
  have hb : Below w.heap.size w w.drew := (Below.refl _ _).drew
  generalize w.drew = w2 at hb ⊢
  have HB := Lib.hid hb; clear hb c0 c1 x0 x1 x2 y0 y1 y2
  go_wp2_with (go_at_call 20; (with_reducible refine (HC _).mono ?_); rintro e w3 ⟨rfl, hb3⟩)
  go_ret
  exact ⟨rfl, HB.out.trans (hb3.mono HB.out.size)⟩

set_option maxHeartbeats 4000000 in
set_option maxRecDepth 100000 in
theorem swap_raw (N n i j : Nat) (w : World) (hi : i < n) (hj : j < n) (hij : i ≠ j) (hn : n ≤ 100) (xa xb xc ya yb yc : Int)
  (c0 : w.cell? ⟨N + 1, 0, none⟩ = some (.slice (some ⟨N,0,none⟩) n n))
  (x0 : w.cell? ⟨N, i * 3, none⟩ = some (.int .i64 xa)) (x1 : w.cell? ⟨N, i * 3 + 1, none⟩ = some (.int .i64 xb)) (x2 : w.cell? ⟨N, i * 3 + 2, none⟩ = some (.int .i64 xc))
  (y0 : w.cell? ⟨N, j * 3, none⟩ = some (.int .i64 ya)) (y1 : w.cell? ⟨N, j * 3 + 1, none⟩ = some (.int .i64 yb)) (y2 : w.cell? ⟨N, j * 3 + 2, none⟩ = some (.int .i64 yc))
  (fx0 : w.frozen? ⟨N, i * 3, none⟩ = false) (fx1 : w.frozen? ⟨N, i * 3 + 1, none⟩ = false) (fx2 : w.frozen? ⟨N, i * 3 + 2, none⟩ = false)
  (fy0 : w.frozen? ⟨N, j * 3, none⟩ = false) (fy1 : w.frozen? ⟨N, j * 3 + 1, none⟩ = false) (fy2 : w.frozen? ⟨N, j * 3 + 2, none⟩ = false)
  : Calls Try.prog 43 #[.pointer (some ⟨N+1, 0, none⟩), .int .i64 i, .int .i64 j] w fun e w' => e = .returned (.tuple #[]) ∧
    w' = ((((((w.setCell ⟨N, i * 3, none⟩ (.int .i64 ya)).setCell ⟨N, i * 3 + 1, none⟩ (.int .i64 yb)).setCell ⟨N, i * 3 + 2, none⟩ (.int .i64 yc)).setCell ⟨N, j * 3, none⟩ (.int .i64 xa)).setCell ⟨N, j * 3 + 1, none⟩ (.int .i64 xb)).setCell ⟨N, j * 3 + 2, none⟩ (.int .i64 xc)).drew := by
  have hi' : (i : Int) < (n : Int) := by omega
  have hj' : (j : Int) < (n : Int) := by omega
  have hi0 : (0 : Int) ≤ (i : Int) := by omega
  have hj0 : (0 : Int) ≤ (j : Int) := by omega
  go_enter Try.func43, Try.ntmps43
  go_wp2
  go_region
  go_wp2
  go_returns
  exact ⟨rfl, rfl⟩

def flat (ws : List Wt) : List Value := ws.flatMap fun x => [.int .i64 x.who, .int .i64 x.per, .int .i64 x.due]
def Wt.nil : Wt := ⟨0, 0, 0⟩
theorem flat_len (ws : List Wt) : (flat ws).length = ws.length * 3 := by
  induction ws with
  | nil => rfl
  | cons a l ih => simp [flat] at ih ⊢; omega
theorem flat_get : ∀ (ws : List Wt) (i : Nat), i < ws.length → (flat ws)[i * 3]? = some (.int .i64 (ws.getD i Wt.nil).who) ∧ (flat ws)[i * 3 + 1]? = some (.int .i64 (ws.getD i Wt.nil).per) ∧ (flat ws)[i * 3 + 2]? = some (.int .i64 (ws.getD i Wt.nil).due)
  | [], i, h => by simp at h
  | a :: l, 0, _ => ⟨rfl, rfl, rfl⟩
  | a :: l, i + 1, h => by
    have ih := flat_get l i (by simpa using h)
    have e : flat (a :: l) = .int .i64 a.who :: .int .i64 a.per :: .int .i64 a.due :: flat l := rfl
    rw [e, show (i + 1) * 3 = i * 3 + 1 + 1 + 1 by omega, show (i * 3 + 1 + 1 + 1) + 1 = (i * 3 + 1) + 1 + 1 + 1 by omega, show (i * 3 + 1 + 1 + 1) + 2 = (i * 3 + 2) + 1 + 1 + 1 by omega]
    simpa using ih
theorem flat_set : ∀ (ws : List Wt) (i : Nat) (x : Wt), i < ws.length → flat (ws.set i x) = (((flat ws).set (i * 3) (.int .i64 x.who)).set (i * 3 + 1) (.int .i64 x.per)).set (i * 3 + 2) (.int .i64 x.due)
  | [], i, x, h => by simp at h
  | a :: l, 0, x, _ => rfl
  | a :: l, i + 1, x, h => by
    have ih := flat_set l i x (by simpa using h)
    have e : ∀ (a : Wt) (l : List Wt), flat (a :: l) = .int .i64 a.who :: .int .i64 a.per :: .int .i64 a.due :: flat l := fun _ _ => rfl
    rw [List.set_cons_succ, e, e, ih, show (i + 1) * 3 = i * 3 + 1 + 1 + 1 by omega, show (i * 3 + 1 + 1 + 1) + 1 = (i * 3 + 1) + 1 + 1 + 1 by omega, show (i * 3 + 1 + 1 + 1) + 2 = (i * 3 + 2) + 1 + 1 + 1 by omega]
    simp

/-- All who wait, in memory: the block N holds them, the next one the line itself. -/
structure Line (N : Nat) (w : World) (ws : List Wt) : Prop where
  row : w.ownsRow N 43 3 (.slice (some ⟨N, 0, none⟩) ws.length ws.length) ws.length (flat ws)
  lt : N + 1 < w.heap.size
  c0 : w.cell? ⟨N + 1, 0, none⟩ = some (.slice (some ⟨N, 0, none⟩) ws.length ws.length)
  c1 : w.cell? ⟨N + 1, 1, none⟩ = some (.func (.func 20) #[] #[])

theorem grown_trans {a b c : World} {row : Option Nat} (h : a.grownBy b row) (k : b.grownBy c row) : a.grownBy c row :=
  ⟨k.os.trans h.os, k.tape.trans h.tape, k.output.trans h.output, Nat.le_trans h.size k.size, fun i hi hne => (k.block i (Nat.lt_of_lt_of_le hi h.size) hne).trans (h.block i hi hne)⟩
theorem grown_of_below {a b : World} {row : Option Nat} (h : Below a.heap.size a b) : a.grownBy b row :=
  ⟨h.os, h.tape, h.output, h.size, fun i hi _ => h.block i hi⟩
theorem grown_drew (w : World) (row : Option Nat) : w.grownBy w.drew row := ⟨rfl, rfl, rfl, Nat.le_refl _, fun _ _ _ => rfl⟩

theorem Line.keep {N : Nat} {w w' : World} {ws : List Wt} (h : Line N w ws) (hb : Below w.heap.size w w') : Line N w' ws :=
  ⟨h.row.kept (grown_of_below (row := none) hb) (.inr (by simp [Value.ownBlock])), Nat.lt_of_lt_of_le h.lt hb.size, (hb.cell (p := ⟨N + 1, 0, none⟩) h.lt).trans h.c0, (hb.cell (p := ⟨N + 1, 1, none⟩) h.lt).trans h.c1⟩

theorem Line.cell {N : Nat} {w : World} {ws : List Wt} (h : Line N w ws) {i : Nat} (hi : i < ws.length) :
    w.cell? ⟨N, i * 3, none⟩ = some (.int .i64 (ws.getD i Wt.nil).who) ∧ w.cell? ⟨N, i * 3 + 1, none⟩ = some (.int .i64 (ws.getD i Wt.nil).per) ∧ w.cell? ⟨N, i * 3 + 2, none⟩ = some (.int .i64 (ws.getD i Wt.nil).due) := by
  obtain ⟨h0, h1, h2⟩ := flat_get ws i hi
  exact ⟨(h.row.cellAt _ (by omega)).trans h0, (h.row.cellAt _ (by omega)).trans h1, (h.row.cellAt _ (by omega)).trans h2⟩

theorem Line.set {N : Nat} {w : World} {ws : List Wt} (h : Line N w ws) {i : Nat} (hi : i < ws.length) (x : Wt) :
    Line N (((w.setCell ⟨N, i * 3, none⟩ (.int .i64 x.who)).setCell ⟨N, i * 3 + 1, none⟩ (.int .i64 x.per)).setCell ⟨N, i * 3 + 2, none⟩ (.int .i64 x.due)) (ws.set i x) ∧
    w.grownBy (((w.setCell ⟨N, i * 3, none⟩ (.int .i64 x.who)).setCell ⟨N, i * 3 + 1, none⟩ (.int .i64 x.per)).setCell ⟨N, i * 3 + 2, none⟩ (.int .i64 x.due)) (some N) := by
  have a := h.row.stored (i * 3) (.int .i64 x.who)
  have b := a.1.stored (i * 3 + 1) (.int .i64 x.per)
  have c := b.1.stored (i * 3 + 2) (.int .i64 x.due)
  have g := grown_trans (grown_trans a.2 b.2) c.2
  refine ⟨⟨by rw [flat_set ws i x hi, List.length_set]; exact c.1, Nat.lt_of_lt_of_le h.lt g.size, ?_, ?_⟩, g⟩
  · rw [List.length_set]; exact (World.cell?_of_block (g.block (N + 1) h.lt (by simp))).trans h.c0
  · exact (World.cell?_of_block (g.block (N + 1) h.lt (by simp))).trans h.c1

theorem Line.drew {N : Nat} {w : World} {ws : List Wt} (h : Line N w ws) : Line N w.drew ws := h.keep (Below.refl _ _).drew

theorem less_any (N i j : Nat) (w : World) (ws : List Wt) (h : Line N w ws) (hi : i < ws.length) (hj : j < ws.length) (hn : ws.length ≤ 100) :
    Calls Try.prog 42 #[.pointer (some ⟨N+1, 0, none⟩), .int .i64 i, .int .i64 j] w fun e w' => e = .returned (.bool (ltB (ws.getD i Wt.nil) (ws.getD j Wt.nil))) ∧ Below w.heap.size w w' := by
  obtain ⟨x0, x1, x2⟩ := h.cell hi
  obtain ⟨y0, y1, y2⟩ := h.cell hj
  exact less_raw N ws.length i j w hi hj hn _ _ h.c0 h.c1 x0 x1 x2 y0 y1 y2

def swp (ws : List Wt) (i j : Nat) : List Wt := (ws.set i (ws.getD j Wt.nil)).set j (ws.getD i Wt.nil)

theorem swap_any (N i j : Nat) (w : World) (ws : List Wt) (h : Line N w ws) (hi : i < ws.length) (hj : j < ws.length) (hij : i ≠ j) (hn : ws.length ≤ 100) :
    Calls Try.prog 43 #[.pointer (some ⟨N+1, 0, none⟩), .int .i64 i, .int .i64 j] w fun e w' => e = .returned (.tuple #[]) ∧ Line N w' (swp ws i j) ∧ w.grownBy w' (some N) := by
  obtain ⟨x0, x1, x2⟩ := h.cell hi
  obtain ⟨y0, y1, y2⟩ := h.cell hj
  refine (swap_raw N ws.length i j w hi hj hij hn _ _ _ _ _ _ h.c0 x0 x1 x2 y0 y1 y2 (h.row.frozenAt _) (h.row.frozenAt _) (h.row.frozenAt _) (h.row.frozenAt _) (h.row.frozenAt _) (h.row.frozenAt _)).mono ?_
  rintro e w' ⟨rfl, rfl⟩
  have a := h.set hi (ws.getD j Wt.nil)
  have b := a.1.set (i := j) (by simpa using hj) (ws.getD i Wt.nil)
  exact ⟨rfl, b.1.drew, grown_trans (grown_trans a.2 b.2) (grown_drew _ _)⟩

theorem len_any (N : Nat) (w : World) (ws : List Wt) (h : Line N w ws) (hn : ws.length ≤ 100) :
    Calls Try.prog 41 #[.pointer (some ⟨N+1, 0, none⟩)] w fun e w' => e = .returned (.int .i64 ws.length) ∧ w = w' := by
  have c0 := h.c0
  generalize ws.length = n at hn c0 ⊢
  go_enter Try.func41, Try.ntmps41
  go_wp2
  go_ret
  exact ⟨rfl, rfl⟩
end Go.Proofs.Ytmeiohmdiklepaa
