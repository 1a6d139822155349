/- The first words of a map: each class's list, rising; with nothing of the program. Slices of numbers and of things in memory: what reads as a list, what is the call's own, and an append to it. -/
import Derived.WalkKit
import Derived.Test.YtbpkcoemehmpbaaGreatRows
import Derived.Test.YtbpkcoemehmpbaaGreatLayLayPure
import Derived.WalkSpells
import Derived.WalkLawsBesides
import Derived.WalkSmall
import Derived.BigQuiet
import Derived.BigRegion
import Derived.StillTailTactics
import Derived.Deep.QuietTactic
import Derived.Deep.RegionWith
import Derived.Deep.RegionHeld3
import Derived.Deep.DeepCutAuto
import Derived.Deep.AppendLies
import Derived.Deep.Onto
import Derived.Lib.Hide
import Derived.Lib.SmallJoins
import Derived.Handy
import Derived.IntWalk
import Derived.Below
import Derived.Laws.ResultCell
import Derived.Laws.StructEq
import Derived.LoopN
import Derived.OpenShut
import Derived.OwnWalk
import Derived.Laws.AppendOwn
import Derived.Laws.AppendOwnNone
namespace Go.Proofs.YtbpkcoemehmpbaaGreat.Lay

/-- The least v of n - j to n less 1 of which p holds; 0: there is none such. -/
def lowTo (p : Nat → Bool) (n : Nat) : Nat → Nat
  | 0 => 0
  | j + 1 => if p (n - 1 - j) = true then n - 1 - j else lowTo p n j

def IsLow (p : Nat → Bool) (n s w : Nat) : Prop := (w = 0 ∧ ∀ v, s ≤ v → v < n → p v = false) ∨ (s ≤ w ∧ w < n ∧ p w = true ∧ ∀ v, s ≤ v → v < w → p v = false)

theorem low_spec (p : Nat → Bool) (n : Nat) : ∀ j, j + 1 ≤ n → IsLow p n (n - j) (lowTo p n j)
  | 0, _ => .inl ⟨rfl, fun v h1 h2 => by omega⟩
  | j + 1, h => by
    have ih := low_spec p n j (by omega)
    unfold lowTo
    by_cases e : p (n - 1 - j) = true
    · rw [if_pos e]
      exact .inr ⟨by omega, by omega, e, fun v h1 h2 => by omega⟩
    · rw [if_neg e]
      have e2 : p (n - 1 - j) = false := by simpa using e
      rcases ih with ⟨h1, h2⟩ | ⟨h1, h2, h3, h4⟩
      · refine .inl ⟨h1, fun v h5 h6 => ?_⟩
        by_cases e3 : v = n - 1 - j
        · subst e3; exact e2
        · exact h2 v (by omega) h6
      · refine .inr ⟨by omega, h2, h3, fun v h5 h6 => ?_⟩
        by_cases e3 : v = n - 1 - j
        · subst e3; exact e2
        · exact h4 v (by omega) h6
theorem low_uniq {p : Nat → Bool} {n s w w' : Nat} (h : IsLow p n s w) (k : IsLow p n s w') : w = w' := by
  rcases h with ⟨h1, h2⟩ | ⟨h1, h2, h3, h4⟩ <;> rcases k with ⟨k1, k2⟩ | ⟨k1, k2, k3, k4⟩
  · omega
  · have := h2 w' k1 k2; rw [k3] at this; cases this
  · have := k2 w h1 h2; rw [h3] at this; cases this
  · rcases Nat.lt_trichotomy w w' with h5 | h5 | h5
    · have := k4 w h1 h5; rw [h3] at this; cases this
    · exact h5
    · have := h4 w' k1 h5; rw [k3] at this; cases this

/-- Is node v, but for the last one, of class k? -/
def ofK (ks : List Int) (k : Int) (v : Nat) : Bool := decide (ks.getD (v - 1) 9 = k)
/-- How many of 1 to v less 1 are of class k. -/
def cl (ks : List Int) (k : Int) : Nat → Nat
  | 0 => 0
  | v + 1 => cl ks k v + if 1 ≤ v ∧ ofK ks k v = true then 1 else 0

theorem cl_same (ks : List Int) (k : Int) (v : Nat) : ∀ d, (∀ u, v ≤ u → u < v + d → 1 ≤ u → ofK ks k u = false) → cl ks k (v + d) = cl ks k v
  | 0, _ => rfl
  | d + 1, h => by
    have ih := cl_same ks k v d (fun u h1 h2 h3 => h u h1 (by omega) h3)
    rw [show v + (d + 1) = (v + d) + 1 by omega, cl, ih, if_neg]
    · rfl
    · rintro ⟨h1, h2⟩
      have := h (v + d) (by omega) (by omega) h1
      rw [h2] at this; cases this
/-- At the head of a list nothing is behind. -/
theorem cl_head {ks : List Int} {k : Int} {n w : Nat} (h : IsLow (ofK ks k) n 1 w) : (w = 0 → 1 ≤ n → cl ks k n = 0) ∧ (w ≠ 0 → cl ks k w = 0 ∧ 1 ≤ w ∧ w < n ∧ ofK ks k w = true) := by
  have key : ∀ m, 1 ≤ m → (∀ u, 1 ≤ u → u < m → ofK ks k u = false) → cl ks k m = 0 := fun m hm hf => by
    have := cl_same ks k 1 (m - 1) (fun u h1 h2 _ => hf u h1 (by omega))
    rw [show 1 + (m - 1) = m by omega] at this
    rw [this]; simp [cl]
  rcases h with ⟨rfl, h2⟩ | ⟨h1, h2, h3, h4⟩
  · exact ⟨fun _ hn => key n hn h2, fun h => absurd rfl h⟩
  · exact ⟨fun e => by omega, fun _ => ⟨key w h1 h4, h1, h2, h3⟩⟩
/-- From one of a class to the next one there is one. -/
theorem cl_next {ks : List Int} {k : Int} {n v w : Nat} (hv : 1 ≤ v) (hvn : v < n) (hk : ofK ks k v = true) (h : IsLow (fun u => decide (v < u) && ofK ks k u) n 1 w) :
    (w = 0 → cl ks k n = cl ks k v + 1) ∧ (w ≠ 0 → cl ks k w = cl ks k v + 1 ∧ v < w ∧ w < n ∧ ofK ks k w = true) := by
  have key : ∀ m, v < m → (∀ u, v < u → u < m → ofK ks k u = false) → cl ks k m = cl ks k v + 1 := fun m hm hf => by
    have := cl_same ks k (v + 1) (m - (v + 1)) (fun u h1 h2 _ => hf u (by omega) (by omega))
    rw [show v + 1 + (m - (v + 1)) = m by omega] at this
    rw [this, cl, if_pos ⟨hv, hk⟩]
  rcases h with ⟨rfl, h2⟩ | ⟨h1, h2, h3, h4⟩
  · exact ⟨fun _ => key n hvn (fun u h3 h4 => by have := h2 u (by omega) h4; simpa [h3] using this), fun h => absurd rfl h⟩
  · have hvw : v < w := by simp at h3; exact h3.1
    have hwk : ofK ks k w = true := by simp at h3; exact h3.2
    exact ⟨fun e => by omega, fun _ => ⟨key w hvw (fun u h5 h6 => by have := h4 u (by omega) h6; simpa [h5] using this), hvw, h2, hwk⟩⟩
/-- All classes together have all nodes but the last one. -/
theorem cl_sum (ks : List Int) (n : Nat) (hk : ∀ v, 1 ≤ v → v < n → 0 ≤ ks.getD (v - 1) 9 ∧ ks.getD (v - 1) 9 < 5) : ∀ v, 1 ≤ v → v ≤ n → cl ks 0 v + cl ks 1 v + cl ks 2 v + cl ks 3 v + cl ks 4 v + 1 = v
  | 0, h, _ => by omega
  | v + 1, _, h => by
    by_cases e : v = 0
    · subst e; simp [cl]
    · have ih := cl_sum ks n hk v (by omega) (by omega)
      obtain ⟨h1, h2⟩ := hk v (by omega) (by omega)
      have h3 : ks.getD (v - 1) 9 = 0 ∨ ks.getD (v - 1) 9 = 1 ∨ ks.getD (v - 1) 9 = 2 ∨ ks.getD (v - 1) 9 = 3 ∨ ks.getD (v - 1) 9 = 4 := by omega
      have h4 : 1 ≤ v := by omega
      simp only [cl, ofK, decide_eq_true_eq]
      rcases h3 with h3 | h3 | h3 | h3 | h3 <;> simp only [h3] <;> simp [h4] <;> omega

/-- Where classes rise, the next one of a class is the next one, or none is. -/
theorem next_rising {ks : List Int} {n v : Nat} (hr : ∀ i j, i ≤ j → j < n → ks.getD i 9 ≤ ks.getD j 9) (hv : 1 ≤ v) (hvn : v < n) :
    IsLow (fun u => decide (v < u) && ofK ks (ks.getD (v - 1) 9) u) n 1 (if v + 1 < n ∧ ks.getD v 9 = ks.getD (v - 1) 9 then v + 1 else 0) := by
  split
  · rename_i h
    refine .inr ⟨by omega, h.1, by have h2 := h.2; simp only [ofK, Nat.add_sub_cancel, h2]; simp, fun u h1 h2 => ?_⟩
    have : ¬ v < u := by omega
    simp [this]
  · rename_i h
    refine .inl ⟨rfl, fun u h1 h2 => ?_⟩
    by_cases e : v < u
    · simp only [e, decide_true, Bool.true_and]
      have a := hr (v - 1) v (by omega) (by omega)
      have b := hr v (u - 1) (by omega) (by omega)
      have : ks.getD (u - 1) 9 ≠ ks.getD (v - 1) 9 := fun e2 => h ⟨by omega, by omega⟩
      simp [ofK]; exact this
    · simp [e]

/-- How many parts there are. -/
def partsN (n S : Nat) : Nat := (n + S - 1) / S
theorem parts_is {n S p : Nat} (hS : 1 ≤ S) (h1 : n ≤ p * S) (h2 : p * S < n + S) : partsN n S = p := by
  unfold partsN
  refine Nat.div_eq_of_lt_le (by omega) ?_
  rw [Nat.succ_mul]; omega
theorem parts_bd (n S : Nat) (hS : 1 ≤ S) : n ≤ partsN n S * S ∧ partsN n S * S < n + S := by
  unfold partsN
  have h1 := Nat.div_mul_le_self (n + S - 1) S
  have h2 := Nat.lt_div_mul_add (a := n + S - 1) (show 0 < S by omega)
  omega
/-- A part's nodes. -/
theorem part_ok {n S j : Nat} (hS : 1 ≤ S) (hj : j < partsN n S) : j * S + 1 ≤ n ∧ j * S + 1 ≤ min (j * S + S) n ∧ min (j * S + S) n ≤ n ∧ min (j * S + S) n - (j * S + 1) + 1 ≤ S ∧ (j + 1 < partsN n S → min (j * S + S) n = j * S + S) := by
  obtain ⟨h1, h2⟩ := parts_bd n S hS
  have h3 : (j + 1) * S ≤ partsN n S * S := Nat.mul_le_mul_right S (by omega)
  rw [Nat.succ_mul] at h3
  have h4 : j + 1 < partsN n S → (j + 1 + 1) * S ≤ partsN n S * S := fun h => Nat.mul_le_mul_right S (by omega)
  refine ⟨by omega, by omega, by omega, by omega, fun h => ?_⟩
  have h5 := h4 h
  rw [Nat.succ_mul, Nat.succ_mul] at h5
  omega
/-- A node is in just one part. -/
theorem part_iff {n S j v : Nat} (hS : 1 ≤ S) (h1 : 1 ≤ v) (hv : v ≤ n) : (j * S + 1 ≤ v ∧ v ≤ min (j * S + S) n) ↔ (v - 1) / S = j := by
  constructor
  · intro h
    refine Nat.div_eq_of_lt_le (by omega) ?_
    rw [Nat.succ_mul]; omega
  · intro h
    have h3 := Nat.div_mul_le_self (v - 1) S
    have h4 := Nat.lt_div_mul_add (a := v - 1) (show 0 < S by omega)
    rw [h] at h3 h4
    omega
theorem part_lt {n S v : Nat} (hS : 1 ≤ S) (h1 : 1 ≤ v) (hv : v ≤ n) : (v - 1) / S < partsN n S := by
  obtain ⟨h2, _⟩ := parts_bd n S hS
  rw [Nat.div_lt_iff_lt_mul (by omega)]
  omega
end Go.Proofs.YtbpkcoemehmpbaaGreat.Lay

namespace Go.Proofs.YtbpkcoemehmpbaaGreat.Lay
open Go.RowKit
set_option linter.unusedVariables false

theorem info3 : (Tryz.prog.info? 3).map (fun i => (i.zero, i.size, i.bytes)) = some (some (.int .i64 0), 1, 8) := by kernel_rfl
theorem info54 : (Tryz.prog.info? 25).map (fun i => (i.zero, i.size, i.bytes)) = some (some (.int .u64 0), 1, 8) := by kernel_rfl
theorem info39 : (Tryz.prog.info? 114).map (fun i => (i.zero, i.size, i.bytes)) = some (some (.agg #[.int .i64 0, .int .i64 0, .int .i64 0]), 3, 24) := by kernel_rfl

theorem ret_int {k : IntKind} {a b : Int} (h : a = b) : Ending.returned (.int k a) = .returned (.int k b) := by rw [h]
theorem ret_bool {a b : Bool} (h : a = b) : Ending.returned (.bool a) = .returned (.bool b) := by rw [h]
/-- Below a block's number, through a callee's own. -/
theorem below_step {B : Nat} {a w w' : World} (h : Below B a w) (hB : B ≤ w.heap.size) (k : Below w.heap.size w w') : Below B a w' := h.trans (k.mono hB)
theorem below_drewN {B : Nat} {a w : World} (h : Below B a w) : ∀ n, Below B a (w.drewN n)
  | 0 => h
  | n + 1 => (below_drewN h n).drew
theorem below_alloc0 {w w' : World} (h : Below w.heap.size w w') (o : Obj) : Below w.heap.size w (w'.alloc o) := h.alloc h.size o
theorem below_then {w w1 w2 : World} (h : Below w.heap.size w w1) (k : Below w1.heap.size w1 w2) : Below w.heap.size w w2 := below_step h h.size k

theorem add_off (b off j : Nat) : (⟨b, off, none⟩ : Addr).add j = ⟨b, off + j, none⟩ := by
  unfold Addr.add
  split
  · rename_i e; subst e; rfl
  · rfl
theorem grown_of_below {a b : World} {row : Option Nat} (h : Below a.heap.size a b) : a.grownBy b row :=
  ⟨h.os, h.tape, h.output, h.size, fun i hi _ => h.block i hi⟩
theorem map_get (k : IntKind) (l : List Int) (u : Nat) (h : u < l.length) : (l.map (Value.int k))[u]? = some (.int k (l.getD u 0)) := by
  simp [List.getElem?_map, List.getElem?_eq_getElem h, List.getD]
theorem ints_ext (xs ys : List Int) (h : xs.length = ys.length) (h2 : ∀ j, j < xs.length → xs.getD j 0 = ys.getD j 0) : xs = ys := by
  apply List.ext_getElem h
  intro i h3 h4
  have := h2 i h3
  simpa [List.getD, List.getElem?_eq_getElem h3, List.getElem?_eq_getElem h4] using this

/-- A slice of integers of this kind that reads as these, nil let in. -/
def Reads (k : IntKind) (w : World) (A : Option Addr) (zs : List Int) : Prop :=
  0 < zs.length → ∃ b off, A = some ⟨b, off, none⟩ ∧ b < w.heap.size ∧ ∀ j, j < zs.length → w.cell? ⟨b, off + j, none⟩ = some (.int k (zs.getD j 0))
theorem Reads.below {k : IntKind} {w w' : World} {A : Option Addr} {zs : List Int} (h : Reads k w A zs) (hb : Below w.heap.size w w') : Reads k w' A zs := fun h0 => by
  obtain ⟨b, off, e, hlt, hc⟩ := h h0
  exact ⟨b, off, e, Nat.lt_of_lt_of_le hlt hb.size, fun j hj => (hb.cell (p := ⟨b, off + j, none⟩) hlt).trans (hc j hj)⟩

/-- A slice of things that reads as these, nil let in. -/
def ReadsT (w : World) (A : Option Addr) (l : List Th) : Prop :=
  0 < l.length → ∃ b off, A = some ⟨b, off, none⟩ ∧ b < w.heap.size ∧ ∀ j, j < l.length → w.cell? ⟨b, off + j * 3, none⟩ = some (.int .i64 (gt l j).k) ∧ w.cell? ⟨b, off + (j * 3 + 1), none⟩ = some (.int .i64 (gt l j).a) ∧ w.cell? ⟨b, off + (j * 3 + 2), none⟩ = some (.int .i64 (gt l j).b)
theorem ReadsT.below {w w' : World} {A : Option Addr} {l : List Th} (h : ReadsT w A l) (hb : Below w.heap.size w w') : ReadsT w' A l := fun h0 => by
  obtain ⟨b, off, e, hlt, hc⟩ := h h0
  exact ⟨b, off, e, Nat.lt_of_lt_of_le hlt hb.size, fun j hj => ⟨(hb.cell (p := ⟨b, off + j * 3, none⟩) hlt).trans (hc j hj).1, (hb.cell (p := ⟨b, off + (j * 3 + 1), none⟩) hlt).trans (hc j hj).2.1, (hb.cell (p := ⟨b, off + (j * 3 + 2), none⟩) hlt).trans (hc j hj).2.2⟩⟩

def flat (l : List Th) : List Value := l.flatMap fun x => [.int .i64 x.k, .int .i64 x.a, .int .i64 x.b]
theorem flat_len (l : List Th) : (flat l).length = l.length * 3 := by
  induction l with
  | nil => rfl
  | cons a l ih => simp [flat] at ih ⊢; omega
theorem flat_app (l m : List Th) : flat (l ++ m) = flat l ++ flat m := by simp [flat]
theorem flat_get : ∀ (l : List Th) (i : Nat), i < l.length → (flat l)[i * 3]? = some (.int .i64 (gt l i).k) ∧ (flat l)[i * 3 + 1]? = some (.int .i64 (gt l i).a) ∧ (flat l)[i * 3 + 2]? = some (.int .i64 (gt l i).b)
  | [], i, h => by simp at h
  | a :: l, 0, _ => ⟨rfl, rfl, rfl⟩
  | a :: l, i + 1, h => by
    have ih := flat_get l i (by simpa using h)
    have e : flat (a :: l) = .int .i64 a.k :: .int .i64 a.a :: .int .i64 a.b :: flat l := rfl
    rw [e, show (i + 1) * 3 = i * 3 + 1 + 1 + 1 by omega, show (i * 3 + 1 + 1 + 1) + 1 = (i * 3 + 1) + 1 + 1 + 1 by omega, show (i * 3 + 1 + 1 + 1) + 2 = (i * 3 + 2) + 1 + 1 + 1 by omega]
    simpa [gt] using ih

/-- A row of things of the call's own. -/
def OwnT (B : Nat) (w0 wr : World) (v : Value) (l : List Th) : Prop :=
  wr.ownsRow B 114 3 v l.length (flat l) ∧ Below B w0 wr
theorem OwnT.nil {B : Nat} {w0 wr : World} (h : Below B w0 wr) : OwnT B w0 wr (.slice none 0 0) [] := ⟨World.ownsRow_nil _ _ _ _, h⟩
theorem OwnT.drewN {B : Nat} {w0 wr : World} {v : Value} {l : List Th} (h : OwnT B w0 wr v l) (n : Nat) : OwnT B w0 (wr.drewN n) v l := ⟨h.1, below_drewN h.2 n⟩
theorem OwnT.drew {B : Nat} {w0 wr : World} {v : Value} {l : List Th} (h : OwnT B w0 wr v l) : OwnT B w0 wr.drew v l := ⟨h.1, h.2.drew⟩
theorem OwnT.step {B : Nat} {w0 wr w' : World} {v : Value} {l : List Th} (h : OwnT B w0 wr v l) (hB : B ≤ w0.heap.size) (k : Below wr.heap.size wr w') : OwnT B w0 w' v l :=
  ⟨h.1.kept (grown_of_below (row := none) k) (by cases v.ownBlock <;> simp), below_step h.2 (Nat.le_trans hB h.2.size) k⟩
theorem OwnT.alloc {B : Nat} {w0 wr : World} {v : Value} {l : List Th} (h : OwnT B w0 wr v l) (hB : B ≤ w0.heap.size) (o : Obj) : OwnT B w0 (wr.alloc o) v l :=
  ⟨h.1.alloc o, h.2.alloc (Nat.le_trans hB h.2.size) o⟩

/-- What it reads as. -/
theorem OwnT.reads {B : Nat} {w0 wr : World} {v : Value} {l : List Th} (h : OwnT B w0 wr v l) : ∃ A cap, v = .slice A l.length cap ∧ ReadsT wr A l ∧ (A = none → cap = 0) ∧ l.length ≤ cap ∧ cap ≤ maxLen := by
  obtain ⟨ho, hb⟩ := h
  have hlt := ho.lt
  have hcell := fun g (hg : v.ownBlock = some g) => ho.cells hg
  obtain ⟨hl, ⟨h1, h2⟩ | ⟨g, cap, cur, h1, h2, h3, h4, h5, h6, h7⟩⟩ := ho
  · exact ⟨none, 0, by rw [h1, h2], fun h => by omega, fun _ => rfl, by omega, by unfold maxLen; omega⟩
  · refine ⟨_, cap, h1, fun _ => ⟨g, 0, rfl, (hlt g (by rw [h1]; rfl)).2, fun i hi => ?_⟩, (fun e => by cases e), h4, h5⟩
    have hc := hcell g (by rw [h1]; rfl)
    obtain ⟨f0, f1, f2⟩ := flat_get l i hi
    have c0 := hc (i * 3) _ f0
    have c1 := hc (i * 3 + 1) _ f1
    have c2 := hc (i * 3 + 2) _ f2
    rw [add_off] at c0 c1 c2
    exact ⟨c0, c1, c2⟩

/-- An append of one thing that has just been built. -/
theorem append_one {wr : World} {T : TypeId} {x y z : Int} {ops : Array Oper} {rest : List Oper} {o : Oper} {a : Act} {Q : Exit → Act → World → Prop} (hg : o.guard = none) (s c : Operand)
    (ho : o.op = .call { callee := .builtin .append, args := #[s, c], argTypes := #[34, 34] })
    (B : Nat) (w0 : World) (v : Value) (l : List Th) (hs : a.eval s = v) (hown : OwnT B w0 wr v l) (hx : a.eval c = .slice (some ⟨wr.heap.size, 0, none⟩) 1 1) (hl : l.length ≤ 100000) (hB : B ≤ w0.heap.size)
    (h : ∀ v' w', OwnT B w0 w' v' (l ++ [⟨x, y, z⟩]) → wpList Tryz.prog ops Q rest (a.put o.dst v') w') :
    wpList Tryz.prog ops Q (o :: rest) a (wr.alloc (.cells #[.int .i64 x, .int .i64 y, .int .i64 z] T)) := by
  obtain ⟨i0, hi0, hz0, hz1, hz2⟩ := info_parts info39
  have hsz := hown.2.size
  have hn := hown.alloc hB (.cells #[.int .i64 x, .int .i64 y, .int .i64 z] T)
  refine wpList_append_own _ hg s c 34 ho B 114 i0 _ 3 24 Tryz.underlying34 hi0 hz0 hz1 hz2 rfl (by decide) v l.length _ hs hn.1 ⟨wr.heap.size, 0, none⟩ 1 1 [.int .i64 x, .int .i64 y, .int .i64 z] hx rfl ?_ ?_ (by unfold maxLen; omega) (by omega) (by simp; omega) ?_
  · intro j u hj
    rw [add_off, World.cell?_alloc_at _ _ _ _ rfl]
    match j, hj with
    | 0, hj => simp at hj; subst hj; rfl
    | 1, hj => simp at hj; subst hj; rfl
    | 2, hj => simp at hj; subst hj; rfl
  · intro u hu
    simp at hu
    rcases hu with rfl | rfl | rfl <;> rfl
  · intro v' w' h1 h2 _
    refine h v' w' ⟨by rw [List.length_append, flat_app]; exact h1, hn.2.grown h2 (by simp; omega) (fun b hb => (hn.1.lt b hb).1)⟩

/-- A row of integers of the call's own. -/
def OwnI (k : IntKind) (e : TypeId) (B : Nat) (w0 wr : World) (v : Value) (l : List Int) : Prop :=
  wr.ownsRow B e 1 v l.length (l.map (Value.int k)) ∧ Below B w0 wr
theorem OwnI.nil {k : IntKind} {e : TypeId} {B : Nat} {w0 wr : World} (h : Below B w0 wr) : OwnI k e B w0 wr (.slice none 0 0) [] := ⟨World.ownsRow_nil _ _ _ _, h⟩
theorem OwnI.step {k : IntKind} {e : TypeId} {B : Nat} {w0 wr w' : World} {v : Value} {l : List Int} (h : OwnI k e B w0 wr v l) (hB : B ≤ w0.heap.size) (hb : Below wr.heap.size wr w') : OwnI k e B w0 w' v l :=
  ⟨h.1.kept (grown_of_below (row := none) hb) (by cases v.ownBlock <;> simp), below_step h.2 (Nat.le_trans hB h.2.size) hb⟩
theorem OwnI.alloc {k : IntKind} {e : TypeId} {B : Nat} {w0 wr : World} {v : Value} {l : List Int} (h : OwnI k e B w0 wr v l) (hB : B ≤ w0.heap.size) (o : Obj) : OwnI k e B w0 (wr.alloc o) v l :=
  ⟨h.1.alloc o, h.2.alloc (Nat.le_trans hB h.2.size) o⟩
theorem OwnI.reads {k : IntKind} {e : TypeId} {B : Nat} {w0 wr : World} {v : Value} {l : List Int} (h : OwnI k e B w0 wr v l) : ∃ A cap, v = .slice A l.length cap ∧ Reads k wr A l ∧ (A = none → cap = 0) ∧ l.length ≤ cap ∧ cap ≤ maxLen := by
  obtain ⟨ho, hb⟩ := h
  have hlt := ho.lt
  have hcell := fun g (hg : v.ownBlock = some g) => ho.cells hg
  obtain ⟨hl, ⟨h1, h2⟩ | ⟨g, cap, cur, h1, h2, h3, h4, h5, h6, h7⟩⟩ := ho
  · exact ⟨none, 0, by rw [h1, h2], fun h => by omega, fun _ => rfl, by omega, by unfold maxLen; omega⟩
  · refine ⟨_, cap, h1, fun _ => ⟨g, 0, rfl, (hlt g (by rw [h1]; rfl)).2, fun i hi => ?_⟩, (fun e => by cases e), h4, h5⟩
    have c0 := hcell g (by rw [h1]; rfl) i _ (map_get k l i hi)
    rw [add_off] at c0
    exact c0

/-- An append of one integer that has just been built. -/
theorem append_int {k : IntKind} {wr : World} {T : TypeId} {x : Int} {ops : Array Oper} {rest : List Oper} {o : Oper} {a : Act} {Q : Exit → Act → World → Prop} (hg : o.guard = none) (s c : Operand) (t e : TypeId)
    (ho : o.op = .call { callee := .builtin .append, args := #[s, c], argTypes := #[t, t] }) (ht : Tryz.prog.underlying t = some (.slice e))
    (hi : (Tryz.prog.info? e).map (fun i => (i.zero, i.size, i.bytes)) = some (some (.int k 0), 1, 8))
    (B : Nat) (w0 : World) (v : Value) (l : List Int) (hs : a.eval s = v) (hown : OwnI k e B w0 wr v l) (hx : a.eval c = .slice (some ⟨wr.heap.size, 0, none⟩) 1 1) (hl : l.length ≤ 100000) (hB : B ≤ w0.heap.size)
    (h : ∀ v' w', OwnI k e B w0 w' v' (l ++ [x]) → wpList Tryz.prog ops Q rest (a.put o.dst v') w') :
    wpList Tryz.prog ops Q (o :: rest) a (wr.alloc (.cells #[.int k x] T)) := by
  obtain ⟨i0, hi0, hz0, hz1, hz2⟩ := info_parts hi
  have hsz := hown.2.size
  have hn := hown.alloc hB (.cells #[.int k x] T)
  refine wpList_append_own _ hg s c t ho B e i0 _ 1 8 ht hi0 hz0 hz1 hz2 rfl (by decide) v l.length _ hs hn.1 ⟨wr.heap.size, 0, none⟩ 1 1 [.int k x] hx rfl ?_ ?_ (by unfold maxLen; omega) (by omega) (by simp; omega) ?_
  · intro j u hj
    rw [add_off, World.cell?_alloc_at _ _ _ _ rfl]
    match j, hj with
    | 0, hj => simp at hj; subst hj; rfl
  · intro u hu
    simp at hu
    rcases hu with rfl
    rfl
  · intro v' w' h1 h2 _
    refine h v' w' ⟨by simpa using h1, hn.2.grown h2 (by simp; omega) (fun b hb => (hn.1.lt b hb).1)⟩

def imax (x y : Int) : Int := if y > x then y else x
def imin (x y : Int) : Int := if y < x then y else x
@[go_sem ↓ high] theorem run_imax {P : Program} {w : World} (ts : Array TypeId) (t : TypeId) (k k' : IntKind) (x y : Int) : (Builtin.max_ ts t #[.int k x, .int k' y]).run P w = .ok (.int k (imax x y)) w := run_max_int2 ..
@[go_sem ↓ high] theorem run_imin {P : Program} {w : World} (ts : Array TypeId) (t : TypeId) (k k' : IntKind) (x y : Int) : (Builtin.min_ ts t #[.int k x, .int k' y]).run P w = .ok (.int k (imin x y)) w := run_min_int2 ..
end Go.Proofs.YtbpkcoemehmpbaaGreat.Lay
