/- A configuration that comes in by value, opened. Each place by the program's own reckoning is the document's; with nothing of the program. A task that is done: what a step is, and what a machine always knows. A node's piece of slots, as the program has it; walked. Words told by things: a list that has at each thing's place the thing's value; with nothing of the program. Arguments opened: arrays of integers, rows of integers. A configuration that comes in, under the names that a frame wants. -/
import Derived.Test.YtpocihddecemfaaGreatJ2
import Derived.ProofKit
import Derived.OpenShut
import Derived.ChangeOld
import Derived.Test.YtpocihddecemfaaGreatJ4
import Derived.Test.YtpocihddecemfaaGreatAdPure
import Derived.Test.YtpocihddecemfaaGreatJ8
import Derived.Test.YtpocihddecemfaaGreatJ1
import Derived.Test.YtpocihddecemfaaGreatJ3
import Derived.Lib.Hide
import Derived.IntWalk
import Derived.WalkKit
import Derived.ChangeSlices
import Derived.Below
namespace Go.Proofs.YtpocihddecemfaaGreat.Lay
open Go.ChangeShapes Go.WideShapes Go.RowKit
set_option linter.constructorNameAsVariable false
set_option maxRecDepth 100000

section
variable {H : Type} {enc : TypeId × Value → H} {w : World} {base : Nat} {spare : Nat → Bool} {held : Bool}

theorem one_cell {fuel : Nat} {cs : List Value} {i : Nat} {y : DataW H × List MemPlace} (h : DataW.trod enc Tryz.prog w base spare held fuel 3 ((cs.drop i).take 1) = some y) : ∃ x : Int, cs[i]? = some (.int .i64 x) := by
  obtain ⟨x, h1, _, _⟩ := DataW.trod_int Tryz.underlying3 h
  have := congrArg (fun l => l[0]?) h1
  exact ⟨x, by simpa [List.getElem?_take, List.getElem?_drop] using this⟩
theorem open_cfg {r : Reach} {b0 : Nat} {v : Value} {d : DataW H} {p : List MemPlace} (hv : Value.okWide Tryz.prog w r b0 24 v) (h : DataW.Trod enc Tryz.prog w base spare held 24 v d p) : ∃ c : Cfg, v = cfgV c := by
  have ht := Tryz.underlying24
  obtain ⟨cs, rfl, hsz⟩ : ∃ cs, v = .agg cs ∧ cs.size = Tryz.prog.cellsOf 24 := by
    simp only [Value.okWide, ht] at hv
    obtain ⟨cs, h1, h2, _⟩ := hv
    exact ⟨cs, h1, h2⟩
  have hc24 : Tryz.prog.cellsOf 24 = 12 := by kernel_rfl
  have hc22 : Tryz.prog.cellsOf 22 = 5 := by kernel_rfl
  have hc3 : Tryz.prog.cellsOf 3 = 1 := by kernel_rfl
  obtain ⟨fuel, hf⟩ := h
  obtain ⟨xs, m, _, _, _, hl, hel⟩ := DataW.trod_struct ht hf
  have g0 : DataW.trod enc Tryz.prog w base spare held m 22 (List.take (Tryz.prog.cellsOf 22) (List.drop 0 _)) = xs[0]? := hel 0 _ rfl
  have g1 : DataW.trod enc Tryz.prog w base spare held m 3 (List.take (Tryz.prog.cellsOf 3) (List.drop 5 _)) = xs[1]? := hel 1 _ rfl
  have g2 : DataW.trod enc Tryz.prog w base spare held m 3 (List.take (Tryz.prog.cellsOf 3) (List.drop 6 _)) = xs[2]? := hel 2 _ rfl
  have g3 : DataW.trod enc Tryz.prog w base spare held m 3 (List.take (Tryz.prog.cellsOf 3) (List.drop 7 _)) = xs[3]? := hel 3 _ rfl
  have g4 : DataW.trod enc Tryz.prog w base spare held m 3 (List.take (Tryz.prog.cellsOf 3) (List.drop 8 _)) = xs[4]? := hel 4 _ rfl
  have g5 : DataW.trod enc Tryz.prog w base spare held m 3 (List.take (Tryz.prog.cellsOf 3) (List.drop 9 _)) = xs[5]? := hel 5 _ rfl
  have g6 : DataW.trod enc Tryz.prog w base spare held m 3 (List.take (Tryz.prog.cellsOf 3) (List.drop 10 _)) = xs[6]? := hel 6 _ rfl
  have g7 : DataW.trod enc Tryz.prog w base spare held m 3 (List.take (Tryz.prog.cellsOf 3) (List.drop 11 _)) = xs[7]? := hel 7 _ rfl
  have hx8 : xs.length = 8 := hl
  rw [hc22] at g0
  rw [hc3] at g1 g2 g3 g4 g5 g6 g7
  rw [List.getElem?_eq_getElem (by omega)] at g0 g1 g2 g3 g4 g5 g6 g7
  obtain ⟨xs0, m0, _, _, _, hl0, hel0⟩ := DataW.trod_array Tryz.underlying22 g0
  have key : ∀ i, i < 5 → ∃ x : Int, cs.toList[i]? = some (.int .i64 x) := fun i hi => by
    have e := hel0 i hi
    rw [hc3, List.getElem?_eq_getElem (by omega)] at e
    obtain ⟨x, hx⟩ := one_cell (by simpa using e)
    refine ⟨x, ?_⟩
    simpa [Value.cells, List.getElem?_take, hi] using hx
  obtain ⟨a, ha⟩ := key 0 (by omega)
  obtain ⟨b, hb⟩ := key 1 (by omega)
  obtain ⟨c, hc⟩ := key 2 (by omega)
  obtain ⟨d', hd⟩ := key 3 (by omega)
  obtain ⟨e, he⟩ := key 4 (by omega)
  obtain ⟨f1, h1⟩ := one_cell g1
  obtain ⟨f2, h2⟩ := one_cell g2
  obtain ⟨f3, h3⟩ := one_cell g3
  obtain ⟨f4, h4⟩ := one_cell g4
  obtain ⟨f5, h5⟩ := one_cell g5
  obtain ⟨f6, h6⟩ := one_cell g6
  obtain ⟨f7, h7⟩ := one_cell g7
  refine ⟨⟨a, b, c, d', e, f1, f2, f3, f4, f5, f6, f7⟩, ?_⟩
  show Value.agg cs = Value.agg _
  congr 1
  apply Array.ext'
  apply List.ext_getElem?
  intro i
  have hn : cs.toList.length = 12 := by simpa [hc24] using hsz
  match i with
  | 0 => exact ha
  | 1 => exact hb
  | 2 => exact hc
  | 3 => exact hd
  | 4 => exact he
  | 5 => exact h1
  | 6 => exact h2
  | 7 => exact h3
  | 8 => exact h4
  | 9 => exact h5
  | 10 => exact h6
  | 11 => exact h7
  | i + 12 => rw [List.getElem?_eq_none (by omega)]; rfl
end
end Go.Proofs.YtpocihddecemfaaGreat.Lay

namespace Go.Proofs.YtpocihddecemfaaGreat.Lay
open Go.RowKit
set_option linter.unusedVariables false

/-- A node's class. -/
def kindV (c : Cfg) (v : Int) : Int := kindOf c.a c.b c.c c.d c.e v
theorem kindV_cases {c : Cfg} (h : OkC c) (v : Int) :
    (kindV c v = -1 ∧ (v < 1 ∨ nodesN c < v)) ∨ (kindV c v = 0 ∧ 1 ≤ v ∧ v ≤ c.a) ∨ (kindV c v = 1 ∧ c.a < v ∧ v ≤ c.a + c.b) ∨ (kindV c v = 2 ∧ c.a + c.b < v ∧ v ≤ c.a + c.b + c.c) ∨
    (kindV c v = 3 ∧ c.a + c.b + c.c < v ∧ v ≤ c.a + c.b + c.c + c.d) ∨ (kindV c v = 4 ∧ c.a + c.b + c.c + c.d < v ∧ v ≤ nodesN c) := by
  unfold kindV kindOf nodesN
  rw [many_is ⟨h.a0, h.a1⟩, many_is ⟨h.b0, h.b1⟩, many_is ⟨h.c0, h.c1⟩, many_is ⟨h.d0, h.d1⟩, many_is ⟨h.e0, h.e1⟩]
  omega
theorem ks_get {c : Cfg} (i : Nat) (h : i < (ksOf c).length) : (ksOf c).getD i 0 = kindV c (i + 1) := pre_at _ _ _ _ _ i h
theorem r_get {c : Cfg} (i : Nat) (h : i < (ksOf c).length) : (((roomsN c).getD i 0 : Nat) : Int) = slotsOf (kindV c (i + 1)) := by
  rw [roomsN_get c i h, ks_get i h]

theorem off_run (r : List Nat) (s x : Nat) : ∀ m, (∀ i, i < m → r.getD (s + i) 0 = x) → off r (s + m) = off r s + m * (4 + x)
  | 0, _ => by simp
  | m + 1, h => by
    have ih := off_run r s x m (fun i hi => h i (by omega))
    rw [← Nat.add_assoc, off, ih, h m (by omega), Nat.succ_mul]; omega

theorem b1_eq {c : Cfg} (h : OkC c) : ((b1 (shOf c) : Nat) : Int) = at3 c := by
  have := h.u0
  simp only [b1, shOf, at3]; omega
theorem mul_cast {x y : Int} (hx : 0 ≤ x) (hy : 0 ≤ y) : ((x.toNat * (y.toNat + 2) : Nat) : Int) = x * (2 + y) := by
  rw [Int.natCast_mul, Int.natCast_add, Int.toNat_of_nonneg hx, Int.toNat_of_nonneg hy, Int.add_comm y]; rfl
theorem b2_eq {c : Cfg} (h : OkC c) : ((b2 (shOf c) : Nat) : Int) = at4 c := by
  have e := b1_eq h
  have m := mul_cast (x := c.mr) (y := c.dq) (by have := h.k0; omega) (by have := h.q0; omega)
  simp only [b2, at4, Int.natCast_add, e]
  show at3 c + ((c.mr.toNat * (c.dq.toNat + 2) : Nat) : Int) = _
  rw [m]
theorem b3_eq {c : Cfg} (h : OkC c) : ((b3 (shOf c) : Nat) : Int) = at50 c := by
  have e := b2_eq h
  have := (bds h).p0
  simp only [b3, at50, Int.natCast_add, e]
  show at4 c + (((packN c).toNat * 6 : Nat) : Int) = _
  omega

/-- Where a node's words begin. -/
def rA (c : Cfg) (k : Int) : Int := if k = 0 then at50 c else if k = 1 then at51 c else if k = 2 then at52 c else if k = 3 then at53 c else if k = 4 then at54 c else 0
def rF (c : Cfg) (k : Int) : Int := if k = 0 then 1 else if k = 1 then 1 + c.a else if k = 2 then 1 + c.a + c.b else if k = 3 then 1 + c.a + c.b + c.c else if k = 4 then 1 + c.a + c.b + c.c + c.d else 0
def rM (c : Cfg) (k : Int) : Int := if k = 0 then c.a else if k = 1 then c.b else if k = 2 then c.c else if k = 3 then c.d else if k = 4 then c.e else 0
def rW (k : Int) : Int := if 0 ≤ k ∧ k ≤ 4 then 4 else 0

structure Offs (c : Cfg) : Prop where
  o0 : ∀ v : Nat, 1 ≤ v → (v : Int) ≤ c.a → ((off (roomsN c) (v - 1) : Nat) : Int) = ((v : Int) - 1) * 5
  o1 : ∀ v : Nat, c.a < (v : Int) → (v : Int) ≤ c.a + c.b → ((off (roomsN c) (v - 1) : Nat) : Int) = c.a * 5 + ((v : Int) - (1 + c.a)) * 6
  o2 : ∀ v : Nat, c.a + c.b < (v : Int) → (v : Int) ≤ c.a + c.b + c.c → ((off (roomsN c) (v - 1) : Nat) : Int) = c.a * 5 + c.b * 6 + ((v : Int) - (1 + c.a + c.b)) * 8
  o3 : ∀ v : Nat, c.a + c.b + c.c < (v : Int) → (v : Int) ≤ c.a + c.b + c.c + c.d → ((off (roomsN c) (v - 1) : Nat) : Int) = c.a * 5 + c.b * 6 + c.c * 8 + ((v : Int) - (1 + c.a + c.b + c.c)) * 12
  o4 : ∀ v : Nat, c.a + c.b + c.c + c.d < (v : Int) → (v : Int) ≤ nodesN c → ((off (roomsN c) (v - 1) : Nat) : Int) = c.a * 5 + c.b * 6 + c.c * 8 + c.d * 12 + ((v : Int) - (1 + c.a + c.b + c.c + c.d)) * 20
  all : ((off (roomsN c) (ksOf c).length : Nat) : Int) = c.a * 5 + c.b * 6 + c.c * 8 + c.d * 12 + c.e * 20
theorem offs {c : Cfg} (h : OkC c) : Offs c := by
  have hl := ks_len h
  have a0 := h.a0; have b0 := h.b0; have c0 := h.c0; have d0 := h.d0; have e0 := h.e0
  obtain ⟨A, hA⟩ : ∃ A : Nat, (A : Int) = c.a := ⟨c.a.toNat, by omega⟩
  obtain ⟨B, hB⟩ : ∃ A : Nat, (A : Int) = c.b := ⟨c.b.toNat, by omega⟩
  obtain ⟨C, hC⟩ : ∃ A : Nat, (A : Int) = c.c := ⟨c.c.toNat, by omega⟩
  obtain ⟨D, hD⟩ : ∃ A : Nat, (A : Int) = c.d := ⟨c.d.toNat, by omega⟩
  obtain ⟨E, hE⟩ : ∃ A : Nat, (A : Int) = c.e := ⟨c.e.toNat, by omega⟩
  have hn : nodesN c = c.a + c.b + c.c + c.d + c.e := rfl
  have key : ∀ i : Nat, i < A + B + C + D + E → (roomsN c).getD i 0 = if i < A then 1 else if i < A + B then 2 else if i < A + B + C then 4 else if i < A + B + C + D then 8 else 16 := by
    intro i hi
    have g := r_get (c := c) i (by omega)
    have s0 : slotsOf 0 = 1 := rfl
    have s1 : slotsOf 1 = 2 := rfl
    have s2 : slotsOf 2 = 4 := rfl
    have s3 : slotsOf 3 = 8 := rfl
    have s4 : slotsOf 4 = 16 := rfl
    rcases kindV_cases h ((i : Int) + 1) with ⟨hk, hv⟩ | ⟨hk, hv⟩ | ⟨hk, hv⟩ | ⟨hk, hv⟩ | ⟨hk, hv⟩ | ⟨hk, hv⟩
    · omega
    · rw [hk, s0] at g; rw [if_pos (by omega)]; omega
    · rw [hk, s1] at g; rw [if_neg (by omega), if_pos (by omega)]; omega
    · rw [hk, s2] at g; rw [if_neg (by omega), if_neg (by omega), if_pos (by omega)]; omega
    · rw [hk, s3] at g; rw [if_neg (by omega), if_neg (by omega), if_neg (by omega), if_pos (by omega)]; omega
    · rw [hk, s4] at g; rw [if_neg (by omega), if_neg (by omega), if_neg (by omega), if_neg (by omega)]; omega
  have r0 : ∀ m, m ≤ A → off (roomsN c) (0 + m) = off (roomsN c) 0 + m * (4 + 1) := fun m hm => off_run _ 0 1 m (fun i hi => by rw [key _ (by omega), if_pos (by omega)])
  have r1 : ∀ m, m ≤ B → off (roomsN c) (A + m) = off (roomsN c) A + m * (4 + 2) := fun m hm => off_run _ A 2 m (fun i hi => by rw [key _ (by omega), if_neg (by omega), if_pos (by omega)])
  have r2 : ∀ m, m ≤ C → off (roomsN c) (A + B + m) = off (roomsN c) (A + B) + m * (4 + 4) := fun m hm => off_run _ (A + B) 4 m (fun i hi => by rw [key _ (by omega), if_neg (by omega), if_neg (by omega), if_pos (by omega)])
  have r3 : ∀ m, m ≤ D → off (roomsN c) (A + B + C + m) = off (roomsN c) (A + B + C) + m * (4 + 8) := fun m hm => off_run _ (A + B + C) 8 m (fun i hi => by rw [key _ (by omega), if_neg (by omega), if_neg (by omega), if_neg (by omega), if_pos (by omega)])
  have r4 : ∀ m, m ≤ E → off (roomsN c) (A + B + C + D + m) = off (roomsN c) (A + B + C + D) + m * (4 + 16) := fun m hm => off_run _ (A + B + C + D) 16 m (fun i hi => by rw [key _ (by omega), if_neg (by omega), if_neg (by omega), if_neg (by omega), if_neg (by omega)])
  have z : off (roomsN c) 0 = 0 := rfl
  have t0 := r0 A (Nat.le_refl _)
  have t1 := r1 B (Nat.le_refl _)
  have t2 := r2 C (Nat.le_refl _)
  have t3 := r3 D (Nat.le_refl _)
  have t4 := r4 E (Nat.le_refl _)
  rw [Nat.zero_add] at t0
  refine ⟨fun v h1 h2 => ?_, fun v h1 h2 => ?_, fun v h1 h2 => ?_, fun v h1 h2 => ?_, fun v h1 h2 => ?_, ?_⟩
  · have e := r0 (v - 1) (by omega); rw [show 0 + (v - 1) = v - 1 by omega] at e; omega
  · have e := r1 (v - 1 - A) (by omega); rw [show A + (v - 1 - A) = v - 1 by omega] at e; omega
  · have e := r2 (v - 1 - (A + B)) (by omega); rw [show A + B + (v - 1 - (A + B)) = v - 1 by omega] at e; omega
  · have e := r3 (v - 1 - (A + B + C)) (by omega); rw [show A + B + C + (v - 1 - (A + B + C)) = v - 1 by omega] at e; omega
  · have e := r4 (v - 1 - (A + B + C + D)) (by omega); rw [show A + B + C + D + (v - 1 - (A + B + C + D)) = v - 1 by omega] at e; omega
  · rw [show (ksOf c).length = A + B + C + D + E by omega]; omega

theorem lenL_eq {c : Cfg} (h : OkC c) : ((lenL (shOf c) : Nat) : Int) = at55 c := by
  have e := b3_eq h
  have o := (offs h).all
  have hl : (shOf c).r.length = (ksOf c).length := roomsN_len c
  simp only [lenL, Int.natCast_add, e, hl]
  show at50 c + ((off (roomsN c) (ksOf c).length : Nat) : Int) = _
  rw [o]; simp only [at55, at54, at53, at52, at51]; omega

/-- The place of a node's j-th word, by its row. -/
theorem node_at {c : Cfg} (h : OkC c) (v j : Int) : wordL (rA c (kindV c v)) (rF c (kindV c v)) (rM c (kindV c v)) (rW (kindV c v)) (slotsOf (kindV c v)) v j
    = if 1 ≤ v ∧ v ≤ nodesN c then (b3 (shOf c) : Int) + (off (shOf c).r (v - 1).toNat : Nat) + j else -1 := by
  have e := b3_eq h
  have o := offs h
  have a0 := h.a0; have b0 := h.b0; have c0 := h.c0; have d0 := h.d0; have e0 := h.e0
  have hn : nodesN c = c.a + c.b + c.c + c.d + c.e := rfl
  have h5 : at51 c = at50 c + c.a * 5 ∧ at52 c = at51 c + c.b * 6 ∧ at53 c = at52 c + c.c * 8 ∧ at54 c = at53 c + c.d * 12 := ⟨rfl, rfl, rfl, rfl⟩
  rw [e]
  show _ = if _ then at50 c + ((off (roomsN c) (v - 1).toNat : Nat) : Int) + j else -1
  rcases kindV_cases h v with ⟨hk, hv⟩ | ⟨hk, hv⟩ | ⟨hk, hv⟩ | ⟨hk, hv⟩ | ⟨hk, hv⟩ | ⟨hk, hv⟩
  · rw [hk, if_neg (by omega)]; simp [wordL, rF, rM]; omega
  · have := o.o0 v.toNat (by omega) (by omega)
    rw [hk, if_pos (by omega), show (v - 1).toNat = v.toNat - 1 by omega, this]
    simp only [wordL, rA, rF, rM, rW, slotsOf]; simp; rw [if_pos (by omega)]; omega
  · have := o.o1 v.toNat (by omega) (by omega)
    rw [hk, if_pos (by omega), show (v - 1).toNat = v.toNat - 1 by omega, this]
    simp only [wordL, rA, rF, rM, rW, slotsOf]; simp; rw [if_pos (by omega)]; omega
  · have := o.o2 v.toNat (by omega) (by omega)
    rw [hk, if_pos (by omega), show (v - 1).toNat = v.toNat - 1 by omega, this]
    simp only [wordL, rA, rF, rM, rW, slotsOf]; simp; rw [if_pos (by omega)]; omega
  · have := o.o3 v.toNat (by omega) (by omega)
    rw [hk, if_pos (by omega), show (v - 1).toNat = v.toNat - 1 by omega, this]
    simp only [wordL, rA, rF, rM, rW, slotsOf]; simp; rw [if_pos (by omega)]; omega
  · have := o.o4 v.toNat (by omega) (by omega)
    rw [hk, if_pos (by omega), show (v - 1).toNat = v.toNat - 1 by omega, this]
    simp only [wordL, rA, rF, rM, rW, slotsOf]; simp; rw [if_pos (by omega)]; omega

theorem shr_len {c : Cfg} (h : OkC c) : (((shOf c).r.length : Nat) : Int) = nodesN c := by
  rw [show (shOf c).r.length = (ksOf c).length from roomsN_len c]; exact ks_len h
theorem shr_get {c : Cfg} (h : OkC c) (v : Int) (h1 : 1 ≤ v) (h2 : v ≤ nodesN c) : (((shOf c).r.getD (v - 1).toNat 0 : Nat) : Int) = slotsOf (kindV c v) := by
  have := ks_len h
  have g := r_get (c := c) (v - 1).toNat (by omega)
  rw [show (((v - 1).toNat : Nat) : Int) + 1 = v by omega] at g
  exact g

def thg (k a b : Int) : Th := ⟨k, a, b⟩
abbrev plcc (c : Cfg) (k a b : Int) : Int := plc (shOf c) ⟨k, a, b⟩

theorem plc_single (c : Cfg) (j : Int) (h0 : 0 ≤ j) (h1 : j ≤ 5) : wordL 0 0 1 6 0 0 j = plcc c j 0 0 := by
  simp [wordL, plc]; omega
theorem plc_ack {c : Cfg} (h : OkC c) (i : Int) : wordL 6 0 c.mu 1 0 i 0 = plcc c 6 i 0 := by
  have := h.u0
  simp [wordL, plc, shOf]; split <;> split <;> omega
theorem plc_head {c : Cfg} (h : OkC c) (i : Int) : wordL (at2 c) 0 5 1 0 i 0 = plcc c 7 i 0 := by
  have := h.u0
  simp [wordL, plc, shOf, at2]; split <;> split <;> omega
theorem comm2 (i d : Int) : i * (2 + d) = i * (d + 2) := by rw [Int.add_comm]
theorem plc_top {c : Cfg} (h : OkC c) (i : Int) : wordL (at3 c) 0 c.mr 2 c.dq i 0 = plcc c 8 i 0 := by
  have := h.k0; have := h.q0
  have e := b1_eq h
  have hd : (((shOf c).D : Nat) : Int) = c.dq := by show ((c.dq.toNat : Nat) : Int) = _; omega
  have hm : (((shOf c).M : Nat) : Int) = c.mr := by show ((c.mr.toNat : Nat) : Int) = _; omega
  simp only [wordL, plc, e, hd, hm]; simp [comm2]; split <;> split <;> omega
theorem plc_bottom {c : Cfg} (h : OkC c) (i : Int) : wordL (at3 c) 0 c.mr 2 c.dq i 1 = plcc c 9 i 0 := by
  have := h.k0; have := h.q0
  have e := b1_eq h
  have hd : (((shOf c).D : Nat) : Int) = c.dq := by show ((c.dq.toNat : Nat) : Int) = _; omega
  have hm : (((shOf c).M : Nat) : Int) = c.mr := by show ((c.mr.toNat : Nat) : Int) = _; omega
  simp only [wordL, plc, e, hd, hm]; simp [comm2]; split <;> split <;> omega
theorem plc_entry {c : Cfg} (h : OkC c) (i j : Int) : itemL (at3 c) 0 c.mr 2 c.dq i j = plcc c 10 i j := by
  have := h.k0; have := h.q0
  have e := b1_eq h
  have hd : (((shOf c).D : Nat) : Int) = c.dq := by show ((c.dq.toNat : Nat) : Int) = _; omega
  have hm : (((shOf c).M : Nat) : Int) = c.mr := by show ((c.mr.toNat : Nat) : Int) = _; omega
  simp only [itemL, wordL, plc, e, hd, hm]; simp [comm2]
  by_cases h1 : 0 ≤ i ∧ i < c.mr <;> by_cases h2 : 0 ≤ j ∧ j < c.dq
  · rw [if_pos (by omega), if_pos (by omega), if_pos (by omega)]; omega
  · rw [if_neg (by omega), if_neg (by omega)]
  · rw [if_pos (by omega), if_neg (by omega), if_neg (by omega)]
  · rw [if_neg (by omega), if_neg (by omega)]
theorem plc_many {c : Cfg} (h : OkC c) (i : Int) : wordL (at4 c) 1 (packN c) 2 4 i 0 = plcc c 11 i 0 := by
  have e := b2_eq h
  have := (bds h).p0
  have hp : (((shOf c).P : Nat) : Int) = packN c := by show (((packN c).toNat : Nat) : Int) = _; omega
  simp only [wordL, plc, e, hp]; simp; split <;> split <;> omega
theorem plc_link {c : Cfg} (h : OkC c) (i : Int) : wordL (at4 c) 1 (packN c) 2 4 i 1 = plcc c 12 i 0 := by
  have e := b2_eq h
  have := (bds h).p0
  have hp : (((shOf c).P : Nat) : Int) = packN c := by show (((packN c).toNat : Nat) : Int) = _; omega
  simp only [wordL, plc, e, hp]; simp; split <;> split <;> omega
theorem plc_task {c : Cfg} (h : OkC c) (i j : Int) : itemL (at4 c) 1 (packN c) 2 4 i j = plcc c 13 i j := by
  have e := b2_eq h
  have := (bds h).p0
  have hp : (((shOf c).P : Nat) : Int) = packN c := by show (((packN c).toNat : Nat) : Int) = _; omega
  simp only [itemL, wordL, plc, e, hp]; simp
  by_cases h1 : 1 ≤ i ∧ i ≤ packN c <;> by_cases h2 : 0 ≤ j ∧ j < 4
  · rw [if_pos (by omega), if_pos (by omega), if_pos (by omega)]; omega
  · rw [if_neg (by omega), if_neg (by omega)]
  · rw [if_pos (by omega), if_neg (by omega), if_neg (by omega)]
  · rw [if_neg (by omega), if_neg (by omega)]
theorem plc_node {c : Cfg} (h : OkC c) (v j : Int) (h0 : 0 ≤ j) (h3 : j ≤ 3) : wordL (rA c (kindV c v)) (rF c (kindV c v)) (rM c (kindV c v)) (rW (kindV c v)) (slotsOf (kindV c v)) v j = plcc c (14 + j) v 0 := by
  have hl := shr_len h
  rw [node_at h]
  have : j = 0 ∨ j = 1 ∨ j = 2 ∨ j = 3 := by omega
  rcases this with rfl | rfl | rfl | rfl <;> (simp only [plc, hl]; simp)
theorem plc18 (c : Sh) (v j : Int) : plc c ⟨18, v, j⟩ = if 1 ≤ v ∧ v ≤ c.r.length ∧ 0 ≤ j ∧ j < c.r.getD (v - 1).toNat 0 then (b3 c : Int) + off c.r (v - 1).toNat + 4 + j else -1 := by
  simp only [plc]
  rw [if_neg (by decide), if_neg (by decide), if_neg (by decide), if_neg (by decide), if_neg (by decide), if_neg (by decide), if_neg (by decide), if_neg (by decide), if_neg (by decide), if_neg (by decide), if_neg (by decide), if_pos trivial]
theorem plc_slot {c : Cfg} (h : OkC c) (v j : Int) : itemL (rA c (kindV c v)) (rF c (kindV c v)) (rM c (kindV c v)) (rW (kindV c v)) (slotsOf (kindV c v)) v j = plcc c 18 v j := by
  have hl := shr_len h
  have hb := slots_bd (kindV c v)
  unfold itemL
  by_cases hv : 1 ≤ v ∧ v ≤ nodesN c
  · have g := shr_get h v hv.1 hv.2
    have hw : rW (kindV c v) = 4 := by
      unfold rW; rw [if_pos]
      rcases kindV_cases h v with ⟨hk, _⟩ | ⟨hk, _⟩ | ⟨hk, _⟩ | ⟨hk, _⟩ | ⟨hk, _⟩ | ⟨hk, _⟩ <;> omega
    by_cases hj : 0 ≤ j ∧ j < slotsOf (kindV c v)
    · rw [if_pos (by omega), node_at h, if_pos hv, hw]
      rw [plcc, plc18, hl, g, if_pos (by omega)]; omega
    · rw [if_neg (by omega)]
      rw [plcc, plc18, hl, g, if_neg (by omega)]
  · have : (if 0 ≤ j ∧ j ≤ slotsOf (kindV c v) - 1 then wordL (rA c (kindV c v)) (rF c (kindV c v)) (rM c (kindV c v)) (rW (kindV c v)) (slotsOf (kindV c v)) v (rW (kindV c v) + j) else -1) = -1 := by
      split
      · rw [node_at h, if_neg hv]
      · rfl
    rw [this]
    rw [plcc, plc18, hl, if_neg (by omega)]
end Go.Proofs.YtpocihddecemfaaGreat.Lay

namespace Go.Proofs.YtpocihddecemfaaGreat
set_option linter.unusedVariables false
set_option linter.unusedSimpArgs false

/-- Where nodes stand: heads, slots, marks; how many nodes; how many slots each has; a piece's slots; the work's place. -/
structure Zg where
  hd : Int → Int
  sl : Int → Int → Int
  ma : Int → Int
  nn : Int
  room : Int → Int
  chunk : Int
  wk : Int
/-- A machine: its part (1 the head, 2 the count, 3 a task that is put somewhere, 4 a slot, 5 a node that is marked, 6 the last one; 0: finished), and what it knows; its event (kind, A, B). -/
structure Zm where
  pc : Nat
  v : Int
  fr : Int
  cy : Int
  at' : Int
  «to» : Int
  w : Int
  c : Cm
  d : Am
  ek : Int
  ea : Int
  eb : Int
/-- A number within two. -/
def bndZ (n lo hi : Int) : Int := if hi < (if n < lo then lo else n) then hi else (if n < lo then lo else n)
/-- A piece's end. -/
def toZ (n fr ch : Int) : Int := bndZ (bndZ fr 0 (bndZ n 0 1000) + bndZ ch 1 1000) 0 (bndZ n 0 1000)
/-- A task: a node, and a slot. -/
def pairZ (v fr : Int) : Int := (v % 4294967296) * 4294967296 + fr % 4294967296
def zrest (m : Zm) : Zm := { m with pc := if m.at' < m.to then 4 else 6 }
def zgive (nw : Int → Am) (m : Zm) (v fr : Int) : Zm := { m with d := nw (pairZ v fr), pc := 3 }
/-- How many slots a node says it has. -/
def zn (g : Zg) (L : List Int) (v : Int) : Int := if 1 ≤ v ∧ v ≤ g.nn then (if g.room v < ldc L (g.hd v) then g.room v else ldc L (g.hd v)) else 0
def zhead (g : Zg) (L : List Int) (m : Zm) : Zm :=
  { m with at' := if zn g L m.v < m.fr then zn g L m.v else m.fr, «to» := toZ (zn g L m.v) m.fr g.chunk,
           pc := if toZ (zn g L m.v) m.fr g.chunk < zn g L m.v then 2 else if (if zn g L m.v < m.fr then zn g L m.v else m.fr) < toZ (zn g L m.v) m.fr g.chunk then 4 else 6 }
def zstp (g : Zg) (pg : Pg) (nw : Int → Am) (L : List Int) (m0 : Zm) : List Int × Zm :=
  let m : Zm := { m0 with ek := 0, ea := 0, eb := 0 }
  if m.pc = 1 then (L, zhead g L m)
  else if m.pc = 2 then (adc L g.wk 1, zgive nw { m with ek := 2, ea := m.v, eb := m.to } m.v m.to)
  else if m.pc = 3 then ((astp pg L m.d).1, if (astp pg L m.d).2.pc = 0 then zrest { m with d := (astp pg L m.d).2 } else { m with d := (astp pg L m.d).2 })
  else if m.pc = 4 then
    (L, if 1 ≤ ldc L (g.sl m.v m.at') ∧ ldc L (g.sl m.v m.at') ≤ g.nn then { m with ek := 3, ea := m.v, eb := m.at', at' := m.at' + 1, w := ldc L (g.sl m.v m.at'), c := cNew (g.ma (ldc L (g.sl m.v m.at'))) m.cy, pc := 5 }
        else zrest { m with ek := 3, ea := m.v, eb := m.at', at' := m.at' + 1 })
  else if m.pc = 5 then
    ((cstp g.wk L m.c).1, if (cstp g.wk L m.c).2.pc ≠ 0 then { m with c := (cstp g.wk L m.c).2 }
        else if (cstp g.wk L m.c).2.won = true then zgive nw { zrest { m with c := (cstp g.wk L m.c).2 } with ek := 1, ea := m.w } m.w 0
        else zrest { m with c := (cstp g.wk L m.c).2 })
  else if m.pc = 6 then (adc L g.wk 18446744073709551615, { m with ek := 4, ea := m.v, eb := m.fr, pc := 0 })
  else (L, m)
def zNew (v fr cy : Int) (c0 : Cm) (d0 : Am) : Zm := ⟨1, v, fr, cy, 0, 0, 0, c0, d0, 0, 0, 0⟩
theorem bndZ_bd {n lo hi : Int} (h : lo ≤ hi) : lo ≤ bndZ n lo hi ∧ bndZ n lo hi ≤ hi := by unfold bndZ; repeat' split <;> omega
theorem bndZ_in {n lo hi : Int} (h : lo ≤ n) (h' : n ≤ hi) : bndZ n lo hi = n := by unfold bndZ; repeat' split <;> omega
/-- A piece of a node that has 0 to 1000 slots. -/
theorem toZ_is {n fr ch : Int} (h0 : 0 ≤ n) (h1 : n ≤ 1000) (f0 : 0 ≤ fr) (c0 : 1 ≤ ch) (c1 : ch ≤ 1000) : toZ n fr ch = if n < (if n < fr then n else fr) + ch then n else (if n < fr then n else fr) + ch := by
  unfold toZ
  rw [bndZ_in h0 h1, bndZ_in c0 c1]
  unfold bndZ; repeat' split <;> omega
theorem toZ_bd {n fr ch : Int} (h0 : 0 ≤ n) (h1 : n ≤ 1000) : 0 ≤ toZ n fr ch ∧ toZ n fr ch ≤ n := by
  unfold toZ; rw [bndZ_in h0 h1]; exact bndZ_bd h0
/-- What a machine always knows: numbers that stay numbers. -/
structure Zw (m : Zm) : Prop where
  pc : m.pc ≤ 6
  at0 : 0 ≤ m.at'
  at1 : m.pc = 4 → m.at' < m.to
  to1 : m.to ≤ 1000
  atl : m.at' ≤ 1001
end Go.Proofs.YtpocihddecemfaaGreat

namespace Go.Proofs.YtpocihddecemfaaGreat
open Go.RowKit
set_option linter.unusedVariables false
set_option linter.unusedSimpArgs false
set_option maxRecDepth 100000

theorem bndZ_is (n lo hi : Int) : Lay.imin (Lay.imax n lo) hi = bndZ n lo hi := rfl
theorem retZ {a b : Int} {k : IntKind} (h : a = b) : Ending.returned (.int k a) = .returned (.int k b) := by rw [h]
theorem pbound_any (n lo hi r : Int) (hr : bndZ n lo hi = r) (w : World) : Calls Tryz.prog 99 #[.int .i64 n, .int .i64 lo, .int .i64 hi] w fun e w' => e = .returned (.int .i64 r) ∧ w = w' := by
  have HR := Lib.hid ((bndZ_is n lo hi).trans hr)
  clear hr
  go_enter Tryz.func99, Tryz.ntmps99
  go_wp2
  go_ret
  exact ⟨retZ HR.out, rfl⟩
theorem pcounted_any (s c S C : Int) (hS : bndZ s 0 1000 = S) (hC : bndZ c 1 1000 = C) (w : World) :
    Calls Tryz.prog 98 #[.int .i64 s, .int .i64 c] w fun e w' => e = .returned (.tuple #[.int .i64 S, .int .i64 C]) ∧ w = w' := by
  have HS := Lib.hid hS
  have HC := Lib.hid hC
  clear hS hC
  go_enter Tryz.func98, Tryz.ntmps98
  go_wp2_with (first
    | (go_at_call 99; (with_reducible refine (pbound_any _ 0 1000 _ HS.out _).mono ?_); rintro r w1 ⟨rfl, rfl⟩)
    | (go_at_call 99; (with_reducible refine (pbound_any _ 1 1000 _ HC.out _).mono ?_); rintro r w1 ⟨rfl, rfl⟩)
    | fail)
  go_returns
  exact ⟨rfl, rfl⟩
/-- Where the piece begins. -/
def frZ (n fr : Int) : Int := if n < fr then n else fr
theorem frZ_is {n fr : Int} (f0 : 0 ≤ fr) (n0 : 0 ≤ n) : bndZ fr 0 n = frZ n fr := by unfold bndZ frZ; repeat' split <;> omega
theorem frZ_bd {n fr : Int} (f0 : 0 ≤ fr) (n0 : 0 ≤ n) : 0 ≤ frZ n fr ∧ frZ n fr ≤ n := by unfold frZ; split <;> omega
set_option maxHeartbeats 1000000 in
theorem pnext_any (n fr ch : Int) (b : Bool) (n0 : 0 ≤ n) (n1 : n ≤ 1000) (f0 : 0 ≤ fr) (hb : decide (toZ n fr ch < n) = b) (w : World) :
    Calls Tryz.prog 80 #[.int .i64 n, .int .i64 fr, .int .i64 ch] w fun e w' => e = .returned (.tuple #[.agg #[.int .i64 (frZ n fr), .int .i64 (toZ n fr ch)], .bool b]) ∧ Below w.heap.size w w' := by
  have e1 : bndZ n 0 1000 = n := bndZ_in n0 n1
  obtain ⟨C, hC⟩ : ∃ C, bndZ ch 1 1000 = C := ⟨_, rfl⟩
  obtain ⟨F, hF⟩ : ∃ F, F = frZ n fr := ⟨_, rfl⟩
  obtain ⟨T, hT⟩ : ∃ T, T = toZ n fr ch := ⟨_, rfl⟩
  have bC := bndZ_bd (n := ch) (lo := 1) (hi := 1000) (by omega)
  rw [hC] at bC
  have bF := frZ_bd f0 n0
  have hf : bndZ fr 0 n = F := by rw [hF]; exact frZ_is f0 n0
  have ht : Lay.imin (F + C) n = T := by
    rw [hT]; unfold toZ Lay.imin; rw [e1, hC, hf]; rw [← hF] at bF; unfold bndZ; repeat' split <;> omega
  rw [← hF] at bF ⊢
  rw [← hT] at hb ⊢
  have ew : IntKind.i64.wrap (F + C) = F + C := IntWalk.i64_in _ (by omega)
  have hb' : decide (n > T) = b := hb
  have HE := Lib.hid e1; have HC := Lib.hid hC; have HF := Lib.hid hf
  clear e1 hC hF hT hf hb bC bF n0 n1 f0
  go_enter Tryz.func80, Tryz.ntmps80
  go_wp2_with (first
    | (go_at_call 98; (with_reducible refine (pcounted_any _ _ _ _ HE.out HC.out _).mono ?_); rintro r w1 ⟨rfl, rfl⟩)
    | (go_at_call 99; (with_reducible refine (pbound_any _ 0 _ _ HF.out _).mono ?_); rintro r w1 ⟨rfl, rfl⟩)
    | fail)
  exact bodyPost_ret (v := .tuple #[.agg #[.int .i64 F, .int .i64 T], .bool b]) (by simp [results, Tryz.results80, go_sem]) rfl ⟨rfl, by go_grown⟩
end Go.Proofs.YtpocihddecemfaaGreat

namespace Go.Proofs.YtpocihddecemfaaGreat.Lay
open Go.RowKit
set_option linter.unusedVariables false

theorem norm_k (k a : Int) (h6 : 6 ≤ k) (h18 : k ≤ 18) : Norm ⟨k, a, 0⟩ := ⟨by show 0 ≤ k; omega, by show k ≤ 18; omega, fun h => by have h2 : k ≤ 5 := h; omega, fun _ _ _ => rfl⟩
def isTh (u t : Th) : Prop := u.k = t.k ∧ u.a = t.a ∧ u.b = t.b
instance (u t : Th) : Decidable (isTh u t) := by unfold isTh; infer_instance
theorem isTh_eq {u t : Th} (h : isTh u t) : u = t := Th.ext' h.1 h.2.1 h.2.2

/-- The list has at each thing's place the thing's value. -/
def Rep (s : Sh) (L : List Int) (V : Th → Int) : Prop := L.length = lenL s ∧ ∀ t, Norm t → 0 ≤ plc s t → L.getD (plc s t).toNat 0 = V t
theorem plc_lt {s : Sh} {t : Th} (hn : Norm t) (h : 0 ≤ plc s t) : plc s t < lenL s := by
  rcases plc_spec s t hn with ⟨h1, _⟩ | ⟨i, hi, h1, _⟩
  · omega
  · rw [h1]; rw [things_len] at hi; omega
theorem plc_inj {s : Sh} {t u : Th} (ht : Norm t) (hu : Norm u) (h : 0 ≤ plc s t) (he : plc s u = plc s t) : u = t := by
  rcases plc_spec s t ht with ⟨h1, _⟩ | ⟨i, hi, h1, h2, _⟩
  · omega
  · rcases plc_spec s u hu with ⟨h3, _⟩ | ⟨j, hj, h3, h4, _⟩
    · omega
    · have : j = i := by omega
      subst this; rw [← h4, ← h2]
theorem Rep.zero (s : Sh) : Rep s (List.replicate (lenL s) 0) (fun _ => 0) :=
  ⟨by simp, fun t hn h => by have := plc_lt hn h; simp only [List.getD, List.getElem?_replicate]; split <;> rfl⟩
theorem Rep.congr {s : Sh} {L : List Int} {V V' : Th → Int} (h : Rep s L V) (hv : ∀ t, Norm t → V t = V' t) : Rep s L V' := ⟨h.1, fun t hn hp => by rw [h.2 t hn hp, hv t hn]⟩
/-- One word written. -/
theorem Rep.set {s : Sh} {L : List Int} {V V' : Th → Int} {t : Th} {x : Int} {H : Nat} (h : Rep s L V) (ht : Norm t) (hH : plc s t = (H : Int)) (hx : V' t = x) (hv : ∀ u, Norm u → u ≠ t → V' u = V u) : Rep s (L.set H x) V' := by
  have hp : 0 ≤ plc s t := by omega
  have hlt := plc_lt ht hp
  refine ⟨by simpa using h.1, fun u hu hup => ?_⟩
  by_cases e : u = t
  · subst e
    rw [show (plc s u).toNat = H by omega, hx]
    simp [List.getD, show H < L.length by rw [h.1]; omega]
  · have hne : (plc s u).toNat ≠ H := fun e2 => e (plc_inj ht hu hp (by omega))
    rw [hv u hu e, ← h.2 u hu hup]
    simp [List.getD, List.getElem?_set_ne hne.symm]

/-- What the words are once things from f to l are linked behind a head. -/
def stkV (V : Th → Int) (t : Th) (kd f l : Int) (u : Th) : Int :=
  if f ≤ l ∧ isTh u t then f else if u.k = kd ∧ f ≤ u.a ∧ u.a < l then u.a + 1 else V u
/-- The same, but linked to j alone. -/
def stkTo (V : Th → Int) (t : Th) (kd f j : Int) (u : Th) : Int :=
  if isTh u t then f else if u.k = kd ∧ f ≤ u.a ∧ u.a < j then u.a + 1 else V u

theorem stk_none {V : Th → Int} {t : Th} {kd f l : Int} (h : l < f) (u : Th) : V u = stkV V t kd f l u := by
  unfold stkV; rw [if_neg (by omega), if_neg (by omega)]
theorem stk_head {s : Sh} {L : List Int} {V : Th → Int} {t : Th} {kd f : Int} {H : Nat} (h : Rep s L V) (ht : Norm t) (hH : plc s t = (H : Int)) : Rep s (L.set H f) (stkTo V t kd f f) :=
  h.set ht hH (by unfold stkTo; rw [if_pos ⟨rfl, rfl, rfl⟩]) (fun u hu hne => by unfold stkTo; rw [if_neg (fun e => hne (isTh_eq e)), if_neg (by omega)])
theorem stk_step {s : Sh} {L : List Int} {V : Th → Int} {t : Th} {kd f j : Int} {q : Nat} (h : Rep s L (stkTo V t kd f j)) (hk : t.k ≠ kd) (hkd : kd = 12 ∨ kd = 17) (hfj : f ≤ j) (hq : plc s ⟨kd, j, 0⟩ = (q : Int)) : Rep s (L.set q (j + 1)) (stkTo V t kd f (j + 1)) := by
  have hn : Norm ⟨kd, j, 0⟩ := norm_k kd j (by omega) (by omega)
  refine h.set hn hq ?_ (fun u hu hne => ?_)
  · unfold stkTo; rw [if_neg (fun e => hk e.1.symm), if_pos ⟨rfl, hfj, by show j < j + 1; omega⟩]
  · unfold stkTo
    by_cases e : isTh u t
    · rw [if_pos e, if_pos e]
    · rw [if_neg e, if_neg e]
      by_cases e2 : u.k = kd ∧ f ≤ u.a ∧ u.a < j + 1
      · have hb : u.b = 0 := by have := hu.2.2.2; omega
        have hj : u.a ≠ j := fun e3 => hne (Th.ext' e2.1 e3 hb)
        rw [if_pos e2, if_pos (by omega)]
      · rw [if_neg e2, if_neg (by omega)]
theorem stk_done {V : Th → Int} {t : Th} {kd f l : Int} (h : f ≤ l) (u : Th) : stkTo V t kd f l u = stkV V t kd f l u := by
  by_cases e : isTh u t
  · simp [stkV, stkTo, e, h]
  · simp [stkV, stkTo, e]
end Go.Proofs.YtpocihddecemfaaGreat.Lay

namespace Go.Proofs.YtpocihddecemfaaGreat
open Go.ChangeShapes Go.WideShapes Go.RowKit

section
variable {H : Type} {enc : TypeId × Value → H} {P : Program} {w : World} {base : Nat} {spare : Nat → Bool} {held : Bool}

theorem open_arr {r : Reach} {b0 n : Nat} {t e : TypeId} {k : IntKind} {v : Value} {d : DataW H} {p : List MemPlace} (ht : P.underlying t = some (.array n e)) (he : P.underlying e = some (.int k)) (hce : P.cellsOf e = 1) (hC : P.cellsOf t = n)
    (hv : Value.okWide P w r b0 t v) (h : DataW.Trod enc P w base spare held t v d p) :
    ∃ l : List Int, l.length = n ∧ v = .agg (l.map (Value.int k)).toArray ∧ ∀ x ∈ l, (Lit.int k x).wf = true := by
  obtain ⟨cs, rfl, hsz⟩ : ∃ cs, v = .agg cs ∧ cs.size = P.cellsOf t := by
    simp only [Value.okWide, ht] at hv
    obtain ⟨cs, h1, h2, _⟩ := hv
    exact ⟨cs, h1, h2⟩
  obtain ⟨fuel, hf⟩ := h
  obtain ⟨xs, m, _, _, _, hl, hel⟩ := DataW.trod_array ht hf
  have key : ∀ i, i < n → ∃ x : Int, cs[i]? = some (.int k x) ∧ (Lit.int k x).wf = true := by
    intro i hi
    have h1 := hel i hi
    rw [hce, List.getElem?_eq_getElem (by omega)] at h1
    obtain ⟨x, h2, _, h3⟩ := DataW.trod_int he h1
    refine ⟨x, ?_, h3⟩
    simp only [Value.cells, Nat.mul_one] at h2
    have h4 := congrArg (fun l => l[0]?) h2
    simpa [List.getElem?_take, List.getElem?_drop] using h4
  have hn : cs.size = n := hsz.trans hC
  refine ⟨cs.toList.map fun v => match v with | .int _ x => x | _ => 0, by simpa using hn, ?_, ?_⟩
  · congr 1
    apply Array.ext'
    simp only [List.map_map]
    apply List.ext_getElem?
    intro i
    by_cases hi : i < n
    · obtain ⟨x, hx, _⟩ := key i hi
      simp only [List.getElem?_map, Array.getElem?_toList, hx, Option.map_some, Function.comp]
    · simp [List.getElem?_map, Array.getElem?_toList, Array.getElem?_eq_none (by omega : cs.size ≤ i)]
  · intro x hx
    obtain ⟨v, hv, rfl⟩ := List.mem_map.1 hx
    obtain ⟨i, hi, hvi⟩ := List.getElem_of_mem hv
    obtain ⟨y, hy, hw⟩ := key i (by simpa [hn] using hi)
    have : v = .int k y := by
      have h5 : cs.toList[i]? = some v := by rw [List.getElem?_eq_getElem hi, hvi]
      rw [Array.getElem?_toList, hy] at h5
      exact (Option.some.inj h5).symm
    subst this
    exact hw

/-- A slice of integers that came in: nil; or a row of 'cap' cells. -/
def IsRow (k : IntKind) (w : World) (a : Option Addr) (len cap : Nat) (zs : List Int) : Prop :=
  (a = none ∧ len = 0 ∧ cap = 0 ∧ zs = []) ∨
  ∃ x, a = some x ∧ len ≤ cap ∧ cap ≤ maxLen ∧ zs.length = cap ∧ (∀ i, i < zs.length → w.cell? (x.add i) = some (.int k (zs.getD i 0))) ∧ ∀ n ∈ zs, (Lit.int k n).wf = true

theorem open_row {t e : TypeId} {k : IntKind} {a : Option Addr} {len cap : Nat} {d : DataW H} {p : List MemPlace} (ht : P.underlying t = some (.slice e)) (he : P.underlying e = some (.int k)) (hce : P.cellsOf e = 1)
    (h : DataW.Trod enc P w 0 (fun _ => true) held t (.slice a len cap) d p) : ∃ zs, IsRow k w a len cap zs := by
  obtain ⟨fuel, hf⟩ := h
  rcases open_ints ht he hce hf with ⟨hcs, _⟩ | ⟨x, l, c, zs, hcs, _, hl, hm, hz, _, hcell, hwz⟩
  · simp [Value.cells] at hcs
    obtain ⟨rfl, rfl, rfl⟩ := hcs
    exact ⟨[], .inl ⟨rfl, rfl, rfl, rfl⟩⟩
  · simp [Value.cells] at hcs
    obtain ⟨rfl, rfl, rfl⟩ := hcs
    exact ⟨zs, .inr ⟨_, rfl, hl, hm, by simpa using hz, hcell, hwz⟩⟩
end
/-- What a slice of integers that came in reads as. -/
theorem reads_row {k : IntKind} {w : World} {a : Option Addr} {len cap : Nat} {z : List Int} (h : IsRow k w a len cap z) :
    Reads k w a (z.take len) ∧ (z.take len).length = len ∧ len ≤ cap ∧ cap ≤ maxLen ∧ (a = none → cap = 0) ∧ ∀ x ∈ z.take len, (Lit.int k x).wf = true := by
  rcases h with ⟨rfl, rfl, rfl, rfl⟩ | ⟨x, rfl, h1, h2, h3, h4, h5⟩
  · exact ⟨fun h => by simp at h, rfl, Nat.le_refl _, Nat.zero_le _, fun _ => rfl, by simp⟩
  · have hl : (z.take len).length = len := by simp; omega
    refine ⟨fun h0 => ?_, hl, h1, h2, (fun e => by cases e), fun y hy => h5 y (List.mem_of_mem_take hy)⟩
    have c0 := h4 0 (by omega)
    obtain ⟨b, off, sp⟩ := x
    have hs : sp = none := by
      cases sp with
      | none => rfl
      | some s =>
        exfalso
        simp only [Addr.add, if_true] at c0
        unfold World.cell? at c0
        simp only [Option.isSome_some, if_true] at c0
        split at c0 <;> simp at c0
    subst hs
    refine ⟨b, off, rfl, ?_, fun j hj => ?_⟩
    · rw [add_off] at c0
      exact World.block_lt_of_cell? w _ c0
    · have c := h4 j (by omega)
      rw [add_off] at c
      rw [c]
      have hj2 : j < len := by omega
      simp [List.getD, hj2]

end Go.Proofs.YtpocihddecemfaaGreat

namespace Go.Proofs.YtpocihddecemfaaGreat
open Go.ChangeShapes Go.WideShapes Go.RowKit
set_option linter.constructorNameAsVariable false
set_option maxRecDepth 100000
abbrev Cfg := Lay.Cfg
abbrev cfgV (c : Cfg) : Value := Lay.cfgV c
theorem open_cfg {H : Type} {enc : TypeId × Value → H} {w : World} {base : Nat} {spare : Nat → Bool} {held : Bool} {r : Reach} {b0 : Nat} {v : Value} {d : DataW H} {p : List MemPlace} (hv : Value.okWide Tryz.prog w r b0 24 v) (h : DataW.Trod enc Tryz.prog w base spare held 24 v d p) : ∃ c : Cfg, v = cfgV c := Lay.open_cfg hv h
end Go.Proofs.YtpocihddecemfaaGreat
