/-  -/
import Derived.Test.YthoiaffeenhfgaaGreatJ1
import Derived.Test.YthoiaffeenhfgaaGreatJ13
import Derived.Test.YthoiaffeenhfgaaGreatLayFirst
import Derived.Test.YthoiaffeenhfgaaGreatJ10
import Derived.Test.YthoiaffeenhfgaaGreatJ5
import Derived.Test.YthoiaffeenhfgaaGreatJ14
import Derived.Test.YthoiaffeenhfgaaGreatLayAcc
import Derived.Test.YthoiaffeenhfgaaGreatJ12
import Derived.BigQuiet
import Derived.Laws.EntriesVeiled
import Derived.Handy
namespace Go.Proofs.YthoiaffeenhfgaaGreat
set_option linter.unusedVariables false
set_option linter.unusedSimpArgs false
structure Wg where
  sw : Int
  dn : Int
  st : Int → Int
  ma : Int → Int
  cl : Int → Nat
  hk : Nat → Sk
  n : Int
  per : Int
def Wg.parts (g : Wg) : Int := (g.n + g.per - 1) / g.per
structure Wn where
  pc : Nat
  cy : Int
  w : Int
  part : Int
  v : Int
  last : Int
  x : Sm
  ek : Int
  ea : Int
def wgo (m : Wn) (v : Int) : Wn := { m with v := v, pc := if v ≤ m.last then 3 else 7 }
def wq (m : Wn) : Wn := { m with ek := 0, ea := 0 }
def wmin (a b : Int) : Int := if a ≤ b then a else b
def wstp (g : Wg) (L : List Int) (m : Wn) : List Int × Wn :=
  if m.pc = 1 then
    (L, { wq m with w := ldq L g.sw, pc := if hiw (ldq L g.sw) = m.cy % 4294967296 ∧ low (ldq L g.sw) < g.parts then 2 else 0 })
  else if m.pc = 2 then
    (if (0 ≤ g.sw ∧ g.sw < L.length) ∧ L.getD g.sw.toNat 0 = m.w then
      (ptq L g.sw (m.w + 1), wgo { wq m with part := low m.w, last := wmin ((low m.w + 1) * g.per) g.n } (low m.w * g.per + 1))
     else (L, { wq m with pc := 0 }))
  else if m.pc = 3 then (L, if ldq L (g.st m.v) = 1 then { wq m with pc := 4 } else wgo (wq m) (m.v + 1))
  else if m.pc = 4 then (L, if ldq L (g.ma m.v) < m.cy then { wq m with pc := 5 } else wgo (wq m) (m.v + 1))
  else if m.pc = 5 then (ptq L (g.st m.v) 0, { m with ek := 5, ea := m.v, x := mPush (g.hk (g.cl m.v)) m.v, pc := 6 })
  else if m.pc = 6 then ((sstp L m.x).1, if (sstp L m.x).2.pc = 0 then wgo { wq m with x := (sstp L m.x).2 } (m.v + 1) else { wq m with x := (sstp L m.x).2 })
  else if m.pc = 7 then (ptq L g.dn ((ldq L g.dn + 1) % 18446744073709551616), { m with ek := 6, ea := m.part, pc := 0 })
  else (L, wq m)
def xnone : Sm := ⟨0, 0, ⟨0, []⟩, 0, 0, 0, 0⟩
def wNew (cy : Int) : Wn := ⟨1, cy, 0, -1, 0, 0, xnone, 0, 0⟩
structure Gw (n N : Nat) (g : Wg) : Prop where
  n0 : g.n = n
  n1 : 1 ≤ n
  n9 : n ≤ 1000
  per : 1 ≤ g.per
  sw : 0 ≤ g.sw ∧ g.sw < N
  dn : 0 ≤ g.dn ∧ g.dn < N
  sd : g.sw ≠ g.dn
  cl : ∀ v : Int, 1 ≤ v → v ≤ n → g.cl v < 5
  s : ∀ v : Int, 1 ≤ v → v ≤ n → 0 ≤ g.st v ∧ g.st v < N ∧ g.st v ≠ g.sw ∧ g.st v ≠ g.dn
  m : ∀ v : Int, 1 ≤ v → v ≤ n → 0 ≤ g.ma v ∧ g.ma v < N ∧ g.ma v ≠ g.sw ∧ g.ma v ≠ g.dn
  si : ∀ v u : Int, 1 ≤ v → v ≤ n → 1 ≤ u → u ≤ n → g.st v = g.st u → v = u
  sm : ∀ v u : Int, 1 ≤ v → v ≤ n → 1 ≤ u → u ≤ n → g.st v ≠ g.ma u
  k : ∀ c : Nat, c < 5 → Gk n N (g.hk c)
  kl : ∀ c d : Nat, c < 5 → d < 5 → (g.hk c).links = (g.hk d).links
  kh : ∀ c d : Nat, c < 5 → d < 5 → (g.hk c).head = (g.hk d).head → c = d
  h : ∀ c : Nat, c < 5 → (g.hk c).head ≠ g.sw ∧ (g.hk c).head ≠ g.dn ∧ ∀ v : Int, 1 ≤ v → v ≤ n → (g.hk c).head ≠ g.st v ∧ (g.hk c).head ≠ g.ma v
  hl : ∀ (c d : Nat) (x : Int), c < 5 → d < 5 → 1 ≤ x → x ≤ n → atOf (g.hk c).links x ≠ (g.hk d).head
  l : ∀ (c : Nat) (x : Int), c < 5 → 1 ≤ x → x ≤ n → atOf (g.hk c).links x ≠ g.sw ∧ atOf (g.hk c).links x ≠ g.dn ∧ ∀ v : Int, 1 ≤ v → v ≤ n → atOf (g.hk c).links x ≠ g.st v ∧ atOf (g.hk c).links x ≠ g.ma v
def InPt (g : Wg) (j u : Int) : Prop := j * g.per < u ∧ u ≤ (j + 1) * g.per
theorem pt_lt {g : Wg} (h : 1 ≤ g.per) {i j u v : Int} (hu : InPt g i u) (hv : InPt g j v) (hij : i < j) : u < v := by
  have : (i + 1) * g.per ≤ j * g.per := Int.mul_le_mul_of_nonneg_right (by omega) (by omega)
  have h1 := hu.2
  have h2 := hv.1
  omega
theorem pt_ne {g : Wg} (h : 1 ≤ g.per) {i j u v : Int} (hu : InPt g i u) (hv : InPt g j v) (hij : i ≠ j) : u ≠ v := by
  rcases Int.lt_or_gt_of_ne hij with x | x
  · have := pt_lt h hu hv x; omega
  · have := pt_lt h hv hu x; omega
theorem pt_ex {g : Wg} (h : 1 ≤ g.per) (u : Int) : InPt g ((u - 1) / g.per) u := by
  have h1 := Int.emod_add_mul_ediv (u - 1) g.per
  have h2 := Int.emod_nonneg (u - 1) (show g.per ≠ 0 by omega)
  have h3 := Int.emod_lt_of_pos (u - 1) (show 0 < g.per by omega)
  have e : ((u - 1) / g.per) * g.per = g.per * ((u - 1) / g.per) := Int.mul_comm _ _
  refine ⟨by omega, ?_⟩
  rw [Int.add_mul, Int.one_mul]; omega
theorem part_node {g : Wg} (h : 1 ≤ g.per) {j : Int} (hj : j < g.parts) : j * g.per + 1 ≤ g.n := by
  unfold Wg.parts at hj
  have h1 := Int.mul_ediv_self_le (x := g.n + g.per - 1) (show g.per ≠ 0 by omega)
  have h2 : (j + 1) * g.per ≤ (g.n + g.per - 1) / g.per * g.per := Int.mul_le_mul_of_nonneg_right (by omega) (by omega)
  rw [Int.mul_comm ((g.n + g.per - 1) / g.per)] at h2
  rw [Int.add_mul, Int.one_mul] at h2
  omega
theorem node_part {g : Wg} (h : 1 ≤ g.per) {j u : Int} (hu : InPt g j u) (h1 : 1 ≤ u) (hn : u ≤ g.n) : 0 ≤ j ∧ j < g.parts := by
  obtain ⟨a, b⟩ := hu
  constructor
  · rcases Int.lt_or_le j 0 with x | x
    · have : (j + 1) * g.per ≤ 0 := Int.mul_nonpos_of_nonpos_of_nonneg (by omega) (by omega)
      omega
    · exact x
  · unfold Wg.parts
    refine Int.lt_of_lt_of_le (Int.lt_succ j) ?_
    apply Int.le_ediv_of_mul_le (by omega)
    show (j + 1) * g.per ≤ _
    rw [Int.add_mul, Int.one_mul]; omega
theorem parts_pos {n N : Nat} {g : Wg} (G : Gw n N g) : 1 ≤ g.parts ∧ g.parts ≤ n := by
  have h := G.per
  have h0 := G.n0
  have h1 := G.n1
  constructor
  · have := node_part h (pt_ex h 1) (by omega) (by omega); omega
  · unfold Wg.parts
    have : (g.n + g.per - 1) / g.per < (n : Int) + 1 := by
      apply Int.ediv_lt_of_lt_mul (by omega)
      have : (n : Int) * 1 ≤ (n : Int) * g.per := Int.mul_le_mul_of_nonneg_left h (by omega)
      rw [Int.add_mul, Int.one_mul]; omega
    omega
def Gone (g : Wg) (L0 : List Int) (cy v : Int) : Prop := L0.getD (g.st v).toNat 0 = 1 ∧ L0.getD (g.ma v).toNat 0 < cy
def fset {α : Type} (f : Nat → α) (k : Nat) (a : α) : Nat → α := fun i => if i = k then a else f i
theorem fset_same {α : Type} (f : Nat → α) (k : Nat) (a : α) : fset f k a k = a := if_pos rfl
theorem fset_other {α : Type} {f : Nat → α} {k i : Nat} (a : α) (h : i ≠ k) : fset f k a i = f i := if_neg h
def iset {α : Type} (f : Int → α) (k : Int) (a : α) : Int → α := fun i => if i = k then a else f i
theorem iset_same {α : Type} (f : Int → α) (k : Int) (a : α) : iset f k a k = a := if_pos rfl
theorem iset_other {α : Type} {f : Int → α} {k i : Int} (a : α) (h : i ≠ k) : iset f k a i = f i := if_neg h
section
variable {n : Nat} {g : Wg} {cy : Int} {L0 L L' : List Int} {T T' : Int} {F F' : Int → Nat} {PD PD' : Int → Bool} {Ts Ts' : Nat → Int} {Qs Qs' : Nat → List Int} {M : Nat → Wn} {m m' : Wn} {k : Nat}
theorem cnt_upd (p p' : Nat → Bool) (i : Nat) (h1 : p i = true) (h2 : p' i = false) (h3 : ∀ j, j ≠ i → p' j = p j) : ∀ N : Nat, i < N → (List.range N).countP p' + 1 = (List.range N).countP p
  | 0, h => by omega
  | N + 1, h => by
    rw [List.range_succ, List.countP_append, List.countP_append]
    by_cases e : i = N
    · subst e
      have : (List.range i).countP p' = (List.range i).countP p := List.countP_congr fun x hx => by rw [h3 x (by have := List.mem_range.1 hx; omega)]
      simp [h1, h2, this]
    · have ih := cnt_upd p p' i h1 h2 h3 N (by omega)
      have : p' N = p N := h3 N (fun e2 => e e2.symm)
      simp only [List.countP_singleton, this]
      omega
def wleft (n : Nat) (F : Int → Nat) : Nat := (List.range n).countP fun (v : Nat) => decide (F ((v : Int) + 1) ≠ 2)
theorem wleft_done {v : Int} (h1 : 1 ≤ v) (hn : v ≤ n) (h : F v ≠ 2) (h2 : F' v = 2) (ho : ∀ u, u ≠ v → F' u = F u) : wleft n F' + 1 = wleft n F := by
  refine cnt_upd _ _ (v - 1).toNat ?_ ?_ (fun j hj => ?_) n (by omega)
  · rw [show (((v - 1).toNat : Nat) : Int) + 1 = v by omega]; simpa using h
  · rw [show (((v - 1).toNat : Nat) : Int) + 1 = v by omega]; simpa using h2
  · rw [ho _ (by omega)]
theorem wleft_same (h : ∀ u, (F' u = 2 ↔ F u = 2)) : wleft n F' = wleft n F := List.countP_congr fun x _ => by simp [h]
inductive SwEv (n : Nat) (g : Wg) (cy : Int) (L0 : List Int) (F F' : Int → Nat) (PD PD' : Int → Bool) : Int → Int → Prop
  | free (v : Int) (h1 : 1 ≤ v ∧ v ≤ n) (h2 : F v = 0) (h3 : Gone g L0 cy v) (h4 : F' = iset F v 1) (h5 : PD' = PD) : SwEv n g cy L0 F F' PD PD' 5 v
  | part (j : Int) (h1 : 0 ≤ j ∧ j < g.parts) (h2 : PD j = false) (h4 : PD' = iset PD j true) (h5 : F' = F) : SwEv n g cy L0 F F' PD PD' 6 j
  | none (h4 : PD' = PD) (h5 : ∀ v : Int, 1 ≤ v → v ≤ n → Gone g L0 cy v → (F' v = 0 ↔ F v = 0)) : SwEv n g cy L0 F F' PD PD' 0 0
theorem hi_w {c T : Int} (h0 : 0 ≤ T) (h1 : T < 4294967296) : hiw (c % 4294967296 * 4294967296 + T) = c % 4294967296 ∧ low (c % 4294967296 * 4294967296 + T) = T := by
  unfold hiw low; omega
theorem item_v (v : Int) (h0 : 1 ≤ v) (h1 : v ≤ 1000) : itemOf v = v := by unfold itemOf; rw [if_neg (by omega)]
theorem cnt_neg (p : Nat → Bool) : ∀ N : Nat, (List.range N).countP p + (List.range N).countP (fun j => !p j) = N
  | 0 => by simp
  | N + 1 => by
    have := cnt_neg p N
    rw [List.range_succ, List.countP_append, List.countP_append]
    cases h : p N <;> simp [h] <;> omega
end
end Go.Proofs.YthoiaffeenhfgaaGreat

namespace Go.Proofs.YthoiaffeenhfgaaGreat
open Go.RowKit
set_option linter.unusedVariables false
open Lay (plcc plc shOf packN nodesN OkC Cfg Norm firstV Rep lenL kindV)
def wOf (c : Cfg) : Wg := ⟨plcc c 2 0 0, plcc c 3 0 0, fun v => plcc c 15 v 0, fun v => plcc c 16 v 0, fun v => (kindV c v).toNat, fun k => ⟨plcc c 7 (k : Int) 0, nxtL c⟩, nodesN c, c.sw⟩
def nodn (c : Cfg) : Nat := (nodesN c).toNat
theorem node_kind {c : Cfg} (hc : OkC c) {v : Int} (h1 : 1 ≤ v) (h2 : v ≤ nodesN c) : 0 ≤ kindV c v ∧ kindV c v < 5 := by
  rcases Lay.kindV_cases hc v with ⟨k, h⟩ | ⟨k, _⟩ | ⟨k, _⟩ | ⟨k, _⟩ | ⟨k, _⟩ | ⟨k, _⟩
  · omega
  all_goals omega
theorem gw_of {c : Cfg} (hc : OkC c) (hn : 1 ≤ nodesN c) (h9 : nodesN c ≤ 1000) : Gw (nodn c) (lenL (shOf c)) (wOf c) := by
  have en : ((nodn c : Nat) : Int) = nodesN c := by unfold nodn; omega
  have n0 : ∀ h : Int, 0 ≤ h → h ≤ 5 → Norm ⟨h, 0, 0⟩ := fun h h1 h2 => nrm h 0 0 h1 (by omega) (fun _ => rfl) (fun _ _ _ => rfl)
  have n1 : ∀ k z : Int, 6 ≤ k → k ≤ 17 → Norm ⟨k, z, 0⟩ := fun k z h1 h2 => nrm k z 0 (by omega) (by omega) (fun h => by omega) (fun _ _ _ => rfl)
  have e2 : plcc c 2 0 0 = 2 := Lay.single_pos c 2 (by omega) (by omega)
  have e3 : plcc c 3 0 0 = 3 := Lay.single_pos c 3 (by omega) (by omega)
  have p15 : ∀ v : Int, 1 ≤ v → v ≤ nodesN c → 0 ≤ plcc c 15 v 0 := fun v a b => Lay.node_pos hc 1 v (by omega) (by omega) a b
  have p16 : ∀ v : Int, 1 ≤ v → v ≤ nodesN c → 0 ≤ plcc c 16 v 0 := fun v a b => Lay.node_pos hc 2 v (by omega) (by omega) a b
  have p17 : ∀ v : Int, 1 ≤ v → v ≤ nodesN c → 0 ≤ plcc c 17 v 0 := fun v a b => Lay.node_pos hc 3 v (by omega) (by omega) a b
  have p7 : ∀ k : Nat, k < 5 → 0 ≤ plcc c 7 (k : Int) 0 := fun k a => Lay.head_pos hc k (by omega) (by omega)
  have lt : ∀ {k z : Int}, Norm ⟨k, z, 0⟩ → 0 ≤ plcc c k z 0 → plcc c k z 0 < (lenL (shOf c) : Int) := fun n p => Lay.plc_lt n p
  have sw1 : 1 ≤ c.sw := by
    obtain ⟨a0, a1, b0, b1, c0, c1, d0, d1, e0, e1, s0, k0, k1, u0, u1, q0, q1, h0, h1, f0, f1, r0, r1, w0, w1⟩ := hc
    omega
  refine ⟨en.symm, by omega, by omega, sw1, ⟨by show 0 ≤ plcc c 2 0 0; omega, lt (n0 2 (by omega) (by omega)) (by omega)⟩, ⟨by show 0 ≤ plcc c 3 0 0; omega, lt (n0 3 (by omega) (by omega)) (by omega)⟩, by show plcc c 2 0 0 ≠ plcc c 3 0 0; omega, fun v a b => ?_, fun v a b => ?_, fun v a b => ?_, fun v u a b d e h => ?_, fun v u a b d e h => ?_, fun k hk => ?_, fun _ _ _ _ => rfl, fun k l hk hl h => ?_, fun k hk => ?_, fun k l x hk hl a b h => ?_, fun k x hk a b => ?_⟩
  · have := node_kind hc a (by omega)
    show (kindV c v).toNat < 5; omega
  · have p := p15 v a (by omega)
    refine ⟨p, lt (n1 15 v (by omega) (by omega)) p, fun h => ?_, fun h => ?_⟩
    · have := one_place (n1 15 v (by omega) (by omega)) (n0 2 (by omega) (by omega)) p h; omega
    · have := one_place (n1 15 v (by omega) (by omega)) (n0 3 (by omega) (by omega)) p h; omega
  · have p := p16 v a (by omega)
    refine ⟨p, lt (n1 16 v (by omega) (by omega)) p, fun h => ?_, fun h => ?_⟩
    · have := one_place (n1 16 v (by omega) (by omega)) (n0 2 (by omega) (by omega)) p h; omega
    · have := one_place (n1 16 v (by omega) (by omega)) (n0 3 (by omega) (by omega)) p h; omega
  · exact (one_place (n1 15 v (by omega) (by omega)) (n1 15 u (by omega) (by omega)) (p15 v a (by omega)) h).2.1
  · have := one_place (n1 15 v (by omega) (by omega)) (n1 16 u (by omega) (by omega)) (p15 v a (by omega)) h; omega
  · have p := p7 k hk
    refine ⟨by omega, ⟨p, lt (n1 7 k (by omega) (by omega)) p⟩, fun x a b => ?_, fun x y a b d e h => ?_⟩
    · show 0 ≤ atOf (nxtL c) x ∧ atOf (nxtL c) x < _ ∧ atOf (nxtL c) x ≠ plcc c 7 (k : Int) 0
      rw [nxt_at' hc]
      have p := p17 x a (by omega)
      refine ⟨p, lt (n1 17 x (by omega) (by omega)) p, fun h => ?_⟩
      have := one_place (n1 17 x (by omega) (by omega)) (n1 7 k (by omega) (by omega)) p h; omega
    · have h' : atOf (nxtL c) x = atOf (nxtL c) y := h
      rw [nxt_at' hc, nxt_at' hc] at h'
      exact (one_place (n1 17 x (by omega) (by omega)) (n1 17 y (by omega) (by omega)) (p17 x a (by omega)) h').2.1
  · have := (one_place (n1 7 k (by omega) (by omega)) (n1 7 l (by omega) (by omega)) (p7 k hk) h).2.1; omega
  · have p := p7 k hk
    refine ⟨fun h => ?_, fun h => ?_, fun v a b => ⟨fun h => ?_, fun h => ?_⟩⟩
    · have := one_place (n1 7 k (by omega) (by omega)) (n0 2 (by omega) (by omega)) p h; omega
    · have := one_place (n1 7 k (by omega) (by omega)) (n0 3 (by omega) (by omega)) p h; omega
    · have := one_place (n1 7 k (by omega) (by omega)) (n1 15 v (by omega) (by omega)) p h; omega
    · have := one_place (n1 7 k (by omega) (by omega)) (n1 16 v (by omega) (by omega)) p h; omega
  · have h' : atOf (nxtL c) x = plcc c 7 (l : Int) 0 := h
    rw [nxt_at' hc] at h'
    have := one_place (n1 17 x (by omega) (by omega)) (n1 7 l (by omega) (by omega)) (p17 x a (by omega)) h'; omega
  · show atOf (nxtL c) x ≠ plcc c 2 0 0 ∧ atOf (nxtL c) x ≠ plcc c 3 0 0 ∧ ∀ v : Int, 1 ≤ v → v ≤ (nodn c : Int) → atOf (nxtL c) x ≠ plcc c 15 v 0 ∧ atOf (nxtL c) x ≠ plcc c 16 v 0
    rw [nxt_at' hc]
    have p := p17 x a (by omega)
    refine ⟨fun h => ?_, fun h => ?_, fun v a b => ⟨fun h => ?_, fun h => ?_⟩⟩
    · have := one_place (n1 17 x (by omega) (by omega)) (n0 2 (by omega) (by omega)) p h; omega
    · have := one_place (n1 17 x (by omega) (by omega)) (n0 3 (by omega) (by omega)) p h; omega
    · have := one_place (n1 17 x (by omega) (by omega)) (n1 15 v (by omega) (by omega)) p h; omega
    · have := one_place (n1 17 x (by omega) (by omega)) (n1 16 v (by omega) (by omega)) p h; omega
end Go.Proofs.YthoiaffeenhfgaaGreat

namespace Go.Proofs.YthoiaffeenhfgaaGreat
open Go.RowKit
set_option linter.unusedVariables false
set_option linter.unusedSimpArgs false
set_option maxRecDepth 100000
open Lay (plcc plc nodesN OkC Cfg kindV partsC)
structure Swc where
  cy : Int
  nx : Value
  se : Int
  pt : Int
  v : Int
  la : Int
  pp : Option Addr
  ek : Int
  ea : Int
abbrev fns (n X : Nat) : Value := .func (.func n) #[ptr X] #[]
def Srow (mp : Option Addr) (z : Swc) : Array Value := #[.pointer mp, .int .u64 z.cy, z.nx, .int .u64 z.se, .int .i64 z.pt, .int .i64 z.v, .int .i64 z.la, .pointer z.pp, .int .i64 z.ek, .int .i64 0, .int .i64 z.ea, .int .i64 0, .int .i64 0]
def Sb (w : World) (X : Nat) (mp : Option Addr) (z : Swc) : Prop := w.heap[X]? = some (.cells (Srow mp z) 139 (0, 0))
section
variable {w w' : World} {X : Nat} {mp : Option Addr} {z : Swc}
theorem Sb.lt (h : Sb w X mp z) : X < w.heap.size := (Array.getElem?_eq_some_iff.1 h).1
theorem Sb.f (h : Sb w X mp z) (j : Nat) : w.frozen? ⟨X, j, none⟩ = false := frozen_of_row w X j _ _ h
theorem Sb.c (h : Sb w X mp z) (j : Nat) : w.cell? ⟨X, j, none⟩ = (Srow mp z)[j]? := cell_of_row w X j _ _ _ h
theorem Sb.c0 (h : Sb w X mp z) : w.cell? ⟨X, 0, none⟩ = some (.pointer mp) := h.c 0
theorem Sb.c1 (h : Sb w X mp z) : w.cell? ⟨X, 1, none⟩ = some (.int .u64 z.cy) := h.c 1
theorem Sb.c2 (h : Sb w X mp z) : w.cell? ⟨X, 2, none⟩ = some z.nx := h.c 2
theorem Sb.c3 (h : Sb w X mp z) : w.cell? ⟨X, 3, none⟩ = some (.int .u64 z.se) := h.c 3
theorem Sb.c4 (h : Sb w X mp z) : w.cell? ⟨X, 4, none⟩ = some (.int .i64 z.pt) := h.c 4
theorem Sb.c5 (h : Sb w X mp z) : w.cell? ⟨X, 5, none⟩ = some (.int .i64 z.v) := h.c 5
theorem Sb.c6 (h : Sb w X mp z) : w.cell? ⟨X, 6, none⟩ = some (.int .i64 z.la) := h.c 6
theorem Sb.c7 (h : Sb w X mp z) : w.cell? ⟨X, 7, none⟩ = some (.pointer z.pp) := h.c 7
theorem Sb.c8 (h : Sb w X mp z) : w.cell? ⟨X, 8, none⟩ = some (.int .i64 z.ek) := h.c 8
theorem Sb.c9 (h : Sb w X mp z) : w.cell? ⟨X, 9, none⟩ = some (.int .i64 0) := h.c 9
theorem Sb.c10 (h : Sb w X mp z) : w.cell? ⟨X, 10, none⟩ = some (.int .i64 z.ea) := h.c 10
theorem Sb.c11 (h : Sb w X mp z) : w.cell? ⟨X, 11, none⟩ = some (.int .i64 0) := h.c 11
theorem Sb.c12 (h : Sb w X mp z) : w.cell? ⟨X, 12, none⟩ = some (.int .i64 0) := h.c 12
theorem Sb.same (h : Sb w X mp z) (k : w'.heap[X]? = w.heap[X]?) : Sb w' X mp z := k.trans h
theorem Sb.step (h : Sb w X mp z) (hb : Below w.heap.size w w') : Sb w' X mp z := (hb.block X h.lt).trans h
theorem Sb.put (h : Sb w X mp z) (j : Nat) (y : Value) {z' : Swc} (hh : (Srow mp z).setIfInBounds j y = Srow mp z') : Sb (w.setCell ⟨X, j, none⟩ y) X mp z' := by
  unfold Sb
  rw [heap_setCell_same w X j _ 139 _ h, hh]
theorem Sb.ev (h : Sb w X mp z) : (w.cell? ⟨X, 8, none⟩ = some (.int .i64 z.ek) ∧ w.cell? ⟨X, 9, none⟩ = some (.int .i64 0) ∧ w.cell? ⟨X, 10, none⟩ = some (.int .i64 z.ea)) ∧ w.cell? ⟨X, 11, none⟩ = some (.int .i64 0) ∧ w.cell? ⟨X, 12, none⟩ = some (.int .i64 0) := ⟨⟨h.c8, h.c9, h.c10⟩, h.c11, h.c12⟩
theorem Sb.evf (h : Sb w X mp z) : (w.frozen? ⟨X, 8, none⟩ = false ∧ w.frozen? ⟨X, 9, none⟩ = false ∧ w.frozen? ⟨X, 10, none⟩ = false) ∧ w.frozen? ⟨X, 11, none⟩ = false ∧ w.frozen? ⟨X, 12, none⟩ = false := ⟨⟨h.f _, h.f _, h.f _⟩, h.f _, h.f _⟩
end
abbrev evS (w : World) (X : Nat) (k a : Int) : World := ((((w.setCell ⟨X, 8, none⟩ (.int .i64 k)).setCell ⟨X, 9, none⟩ (.int .i64 0)).setCell ⟨X, 10, none⟩ (.int .i64 a)).setCell ⟨X, 11, none⟩ (.int .i64 0)).setCell ⟨X, 12, none⟩ (.int .i64 0)
theorem Sb.pev {w : World} {X : Nat} {mp : Option Addr} {z : Swc} (h : Sb w X mp z) (k a : Int) : Sb (evS w X k a) X mp { z with ek := k, ea := a } := by
  have h1 : Sb (w.setCell ⟨X, 8, none⟩ (.int .i64 k)) X mp { z with ek := k } := h.put 8 _ rfl
  have h2 : Sb _ X mp { z with ek := k } := h1.put 9 (.int .i64 0) rfl
  have h3 : Sb _ X mp { z with ek := k, ea := a } := h2.put 10 (.int .i64 a) rfl
  have h4 : Sb _ X mp { z with ek := k, ea := a } := h3.put 11 (.int .i64 0) rfl
  exact h4.put 12 (.int .i64 0) rfl
theorem UF.evS (w : World) (X : Nat) (k a : Int) : UF (fun j => j = X) w (evS w X k a) :=
  ((((UF.set w X 8 _).trans (UF.set _ X 9 _) (fun _ x => x) (fun _ _ x => x)).trans (UF.set _ X 10 _) (fun _ x => x) (fun _ _ x => x)).trans (UF.set _ X 11 _) (fun _ x => x) (fun _ _ x => x)).trans (UF.set _ X 12 _) (fun _ x => x) (fun _ _ x => x)
set_option maxHeartbeats 1000000 in
theorem noneW_any (w : World) : Calls Tryz.prog 235 #[] w fun e w' => e = .returned (.agg #[.int .i64 0, .int .i64 0, .int .i64 0, .int .i64 0, .int .i64 0]) ∧ Below w.heap.size w w' := by
  go_enter Tryz.func235, Tryz.ntmps235
  go_wp2
  exact bodyPost_ret (v := .agg #[.int .i64 0, .int .i64 0, .int .i64 0, .int .i64 0, .int .i64 0]) (by simp [results, Tryz.results235, go_sem]) rfl ⟨rfl, below_alloc0 (Below.refl _ _) _⟩
abbrev evA (k a : Int) : Value := .agg #[.int .i64 k, .int .i64 0, .int .i64 a, .int .i64 0, .int .i64 0]
set_option maxHeartbeats 1000000 in
theorem eventW_any {w : World} {X : Nat} {mp : Option Addr} {z : Swc} (h : Sb w X mp z) : Calls Tryz.prog 233 #[ptr X] w fun e w' => e = .returned (evA z.ek z.ea) ∧ Below w.heap.size w w' := by
  obtain ⟨⟨e0, e1, e2⟩, e3, e4⟩ := (h.step (below_alloc0 (Below.refl w.heap.size w) (.cells #[.int .i64 0, .int .i64 0, .int .i64 0, .int .i64 0, .int .i64 0] 44))).ev
  clear h
  go_enter Tryz.func233, Tryz.ntmps233
  go_wp2
  exact bodyPost_ret (v := evA z.ek z.ea) (by simp [results, Tryz.results233, go_sem]) rfl ⟨rfl, below_alloc0 (Below.refl _ _) _⟩
structure Ss (w0 w : World) (X S D N : Nat) (c : Cfg) (z : Swc) (L : List Int) (cc : Int) : Prop where
  mem : Sb w X (some ⟨N, 0, none⟩) z
  st : St w S D L cc
  mp : Lay.IsMap w N c
  ok : OkC c
  n : X ≠ S ∧ X ≠ D ∧ N ≠ X ∧ N ≠ S ∧ N ≠ D
  u : UF (fun b => b = X ∨ b = S ∨ b = D) w0 w
section
variable {w0 w w' : World} {X S D N : Nat} {c : Cfg} {z : Swc} {L : List Int} {cc : Int}
theorem Ss.step (h : Ss w0 w X S D N c z L cc) (kb : Below w.heap.size w w') : Ss w0 w' X S D N c z L cc :=
  ⟨h.mem.step kb, h.st.below kb, h.mp.below kb, h.ok, h.n, h.u.trans (.of_below (F := fun _ => False) kb) (fun _ x => x) (fun _ _ x => x.elim)⟩
theorem Ss.drew (h : Ss w0 w X S D N c z L cc) : Ss w0 w.drew X S D N c z L cc := h.step (Below.refl _ _).drew
theorem Ss.left (h : Ss w0 w X S D N c z L cc) {L' : List Int} {c' : Int} (kb : Left S D L' c' w w') : Ss w0 w' X S D N c z L' c' :=
  ⟨h.mem.same (kb.2.block X h.mem.lt h.n.1 h.n.2.1), kb.1, IsMap_same h.mp kb.2.size (kb.2.block N h.mp.1 h.n.2.2.2.1 h.n.2.2.2.2), h.ok, h.n, h.u.trans (.of_upd kb.2) (fun _ x => x) (fun _ _ x => .inr x)⟩
theorem Ss.uf (h : Ss w0 w X S D N c z L cc) {z' : Swc} (hz : Sb w' X (some ⟨N, 0, none⟩) z') (u : UF (fun b => b = X) w w') : Ss w0 w' X S D N c z' L cc :=
  ⟨hz, St_same h.st (u.block S h.st.ltS (Ne.symm h.n.1)) (u.block D h.st.row.lt (Ne.symm h.n.2.1)), IsMap_same h.mp u.size (u.block N h.mp.1 h.n.2.2.1), h.ok, h.n, h.u.trans u (fun _ x => x) (fun _ _ e => .inl e)⟩
theorem Ss.put (h : Ss w0 w X S D N c z L cc) (j : Nat) (y : Value) {z' : Swc} (hh : (Srow (some ⟨N, 0, none⟩) z).setIfInBounds j y = Srow (some ⟨N, 0, none⟩) z') : Ss w0 (w.setCell ⟨X, j, none⟩ y) X S D N c z' L cc :=
  h.uf (h.mem.put j y hh) (UF.set w X j y)
theorem Ss.p2 (h : Ss w0 w X S D N c z L cc) (y : Value) : Ss w0 (w.setCell ⟨X, 2, none⟩ y) X S D N c { z with nx := y } L cc := h.put 2 _ rfl
theorem Ss.p3 (h : Ss w0 w X S D N c z L cc) (y : Int) : Ss w0 (w.setCell ⟨X, 3, none⟩ (.int .u64 y)) X S D N c { z with se := y } L cc := h.put 3 _ rfl
theorem Ss.p4 (h : Ss w0 w X S D N c z L cc) (y : Int) : Ss w0 (w.setCell ⟨X, 4, none⟩ (.int .i64 y)) X S D N c { z with pt := y } L cc := h.put 4 _ rfl
theorem Ss.p5 (h : Ss w0 w X S D N c z L cc) (y : Int) : Ss w0 (w.setCell ⟨X, 5, none⟩ (.int .i64 y)) X S D N c { z with v := y } L cc := h.put 5 _ rfl
theorem Ss.p6 (h : Ss w0 w X S D N c z L cc) (y : Int) : Ss w0 (w.setCell ⟨X, 6, none⟩ (.int .i64 y)) X S D N c { z with la := y } L cc := h.put 6 _ rfl
theorem Ss.p7 (h : Ss w0 w X S D N c z L cc) (y : Option Addr) : Ss w0 (w.setCell ⟨X, 7, none⟩ (.pointer y)) X S D N c { z with pp := y } L cc := h.put 7 _ rfl
theorem Ss.pev (h : Ss w0 w X S D N c z L cc) (k a : Int) : Ss w0 (evS w X k a) X S D N c { z with ek := k, ea := a } L cc := h.uf (h.mem.pev k a) (UF.evS w X k a)
theorem Ss.c05 (h : Ss w0 w X S D N c z L cc) : w.cell? ⟨X, 0, none⟩ = some (.pointer (some ⟨N, 0, none⟩)) ∧ w.cell? ⟨X, 5, none⟩ = some (.int .i64 z.v) := ⟨h.mem.c0, h.mem.c5⟩
theorem Ss.c04 (h : Ss w0 w X S D N c z L cc) : w.cell? ⟨X, 0, none⟩ = some (.pointer (some ⟨N, 0, none⟩)) ∧ w.cell? ⟨X, 4, none⟩ = some (.int .i64 z.pt) := ⟨h.mem.c0, h.mem.c4⟩
theorem Ss.c03 (h : Ss w0 w X S D N c z L cc) : w.cell? ⟨X, 0, none⟩ = some (.pointer (some ⟨N, 0, none⟩)) ∧ w.cell? ⟨X, 3, none⟩ = some (.int .u64 z.se) := ⟨h.mem.c0, h.mem.c3⟩
theorem Ss.c051 (h : Ss w0 w X S D N c z L cc) : w.cell? ⟨X, 0, none⟩ = some (.pointer (some ⟨N, 0, none⟩)) ∧ w.cell? ⟨X, 5, none⟩ = some (.int .i64 z.v) ∧ w.cell? ⟨X, 1, none⟩ = some (.int .u64 z.cy) := ⟨h.mem.c0, h.mem.c5, h.mem.c1⟩
def nxS (X : Nat) (v la : Int) : Value := if v ≤ la then fns 164 X else fns 165 X
set_option maxHeartbeats 1000000 in
theorem goOnS (h : Ss w0 w X S D N c z L cc) : Calls Tryz.prog 145 #[ptr X] w fun e w' => e = .returned (.tuple #[]) ∧ Ss w0 w' X S D N c { z with nx := nxS X z.v z.la } L cc := by
  have hmf : ∀ (fn : Fn) (first cap : Array Value) (w : World), (Instr.makeFunc fn first cap).run Tryz.prog w = .ok (.func fn first cap) w := fun _ _ _ _ => rfl
  have H := Lib.hid h
  have r5 := h.mem.c5; have r6 := h.mem.c6
  clear h
  obtain ⟨a, ha⟩ : ∃ a, a = z.v := ⟨_, rfl⟩
  obtain ⟨t, ht⟩ : ∃ t, t = z.la := ⟨_, rfl⟩
  rw [← ha] at r5 ⊢; rw [← ht] at r6 ⊢
  have HA := Lib.hid ha; have HT := Lib.hid ht
  clear ha ht
  unfold nxS
  by_cases hlt : a ≤ t
  · have d : decide (a ≤ t) = true := by simpa using hlt
    rw [if_pos hlt]
    clear hlt
    go_enter Tryz.func145, Tryz.ntmps145
    go_wp2_with (fail)
    go_quiet (fail)
    have H2 := Lib.hid (H.out.step (below_drewN (Below.refl _ _) nq))
    have q2 := H2.out.mem.c2; have f2 := H2.out.mem.f 2
    have H7 := Lib.hid (H2.out.p2 (fns 164 X))
    go_wp2
    go_returns
    refine ⟨rfl, ?_⟩
    have := H7.out; rw [HA.out, HT.out]; exact this
  · have d : decide (a ≤ t) = false := by simpa using hlt
    rw [if_neg hlt]
    clear hlt
    go_enter Tryz.func145, Tryz.ntmps145
    go_wp2_with (fail)
    go_quiet (fail)
    have H2 := Lib.hid (H.out.step (below_drewN (Below.refl _ _) nq))
    have q2 := H2.out.mem.c2; have f2 := H2.out.mem.f 2
    have H7 := Lib.hid (H2.out.p2 (fns 165 X))
    go_wp2
    go_returns
    refine ⟨rfl, ?_⟩
    have := H7.out; rw [HA.out, HT.out]; exact this
set_option maxHeartbeats 1000000 in
theorem passS (h : Ss w0 w X S D N c z L cc) (v0 : 0 ≤ z.v) (v1 : z.v ≤ 1000000) : Calls Tryz.prog 180 #[ptr X] w fun e w' => e = .returned (.tuple #[]) ∧ Ss w0 w' X S D N c { z with v := z.v + 1, nx := nxS X (z.v + 1) z.la } L cc := by
  have r5 := h.mem.c5; have f5 := h.mem.f 5
  have ev : IntKind.i64.wrap (z.v + 1) = z.v + 1 := IntWalk.i64_in _ (by omega)
  have H5 := Lib.hid (h.p5 (z.v + 1))
  clear h
  go_enter Tryz.func180, Tryz.ntmps180
  go_wp2_with (first
    | (go_at_call 145; (with_reducible refine (goOnS H5.out).mono ?_); rintro r w7 ⟨rfl, hk⟩; have H7 := Lib.hid hk; clear hk)
    | fail)
  go_returns
  exact ⟨rfl, H7.out⟩
set_option maxHeartbeats 1000000 in
theorem finS (h : Ss w0 w X S D N c z L cc) : Calls Tryz.prog 127 #[ptr X] w fun e w' => e = .returned (.tuple #[]) ∧ Ss w0 w' X S D N c { z with nx := .nilFunc } L cc := by
  have r2 := h.mem.c2; have f2 := h.mem.f 2
  have H2 := Lib.hid (h.p2 .nilFunc)
  clear h
  go_enter Tryz.func127, Tryz.ntmps127
  go_wp2
  go_returns
  exact ⟨rfl, H2.out⟩
theorem done3 (c : Cfg) : plcc c 3 0 0 = 3 := Lay.single_pos c 3 (by omega) (by omega)
theorem sweep2 (c : Cfg) : plcc c 2 0 0 = 2 := Lay.single_pos c 2 (by omega) (by omega)
set_option maxHeartbeats 2000000 in
theorem countPartS (h : Ss w0 w X S D N c z L cc) (h0 : 0 ≤ cc) (h1 : cc ≤ 1000000000) :
    Calls Tryz.prog 165 #[ptr X, ptr S] w fun e w' => e = .returned (.tuple #[]) ∧ Ss w0 w' X S D N c { z with nx := .nilFunc, ek := 6, ea := z.pt } (adv L 3 1) (cc + 1) := by
  have H := Lib.hid h
  have q0 := h.mem.c0
  clear h
  go_enter Tryz.func165, Tryz.ntmps165
  go_wp2_with (first
    | (go_at_call 36; (with_reducible refine (Lay.done_m H.out.ok N _ H.out.mp).mono ?_); rintro r w1 ⟨rfl, hb⟩; rw [done3]; have H1 := Lib.hid (H.out.step hb); clear hb)
    | (go_at_call 28; (with_reducible refine (add_any _ _ _ H1.out.st h0 h1).mono ?_); rintro r w2 ⟨rfl, hk⟩; have H2 := Lib.hid (H1.out.left hk); clear hk; have q4 := H2.out.mem.c4; obtain ⟨⟨e0, e1, e2⟩, e3, e4⟩ := H2.out.mem.ev; obtain ⟨⟨g0, g1, g2⟩, g3, g4⟩ := H2.out.mem.evf; have H3 := Lib.hid (H2.out.pev 6 z.pt))
    | (go_at_call 127; (with_reducible refine (finS H3.out).mono ?_); rintro r w7 ⟨rfl, hk⟩; have H7 := Lib.hid hk; clear hk)
    | fail)
  go_returns
  exact ⟨rfl, H7.out⟩
end
end Go.Proofs.YthoiaffeenhfgaaGreat
