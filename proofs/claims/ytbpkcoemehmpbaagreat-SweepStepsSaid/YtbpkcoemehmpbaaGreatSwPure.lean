/- Parts that are swept: a machine over words, and what holds however the steps of three come one behind the other. -/
import Derived.Test.YtbpkcoemehmpbaaGreatSkPure
namespace Go.Proofs.YtbpkcoemehmpbaaGreat
set_option linter.unusedVariables false
set_option linter.unusedSimpArgs false

/-- Where nodes stand: the words Sweep and Done, each node's State and Mark, its class, the free ones of a class; how many nodes there are, how many a part has. -/
structure Wg where
  sw : Int
  dn : Int
  st : Int → Int
  ma : Int → Int
  cl : Int → Nat
  hk : Nat → Sk
  n : Int
  per : Int
def Wg.parts (g : Wg) : Int := (g.n + g.per - 1) / g.per
/-- A machine: its part (1 and 2 to take one, 3 a state, 4 a mark, 5 a node that is freed, 6 put to the free ones, 7 the end; 0: finished), and what it knows, and told at its last step. -/
structure Wn where
  pc : Nat
  cy : Int
  w : Int
  part : Int
  v : Int
  last : Int
  x : Sm
  ek : Int
  ea : Int
/-- The next node, or the end. -/
def wgo (m : Wn) (v : Int) : Wn := { m with v := v, pc := if v ≤ m.last then 3 else 7 }
def wq (m : Wn) : Wn := { m with ek := 0, ea := 0 }
def wmin (a b : Int) : Int := if a ≤ b then a else b
def wstp (g : Wg) (L : List Int) (m : Wn) : List Int × Wn :=
  if m.pc = 1 then
    (L, { wq m with w := ldq L g.sw, pc := if hiw (ldq L g.sw) = m.cy % 4294967296 ∧ low (ldq L g.sw) < g.parts then 2 else 0 })
  else if m.pc = 2 then
    (if (0 ≤ g.sw ∧ g.sw < L.length) ∧ L.getD g.sw.toNat 0 = m.w then
      (ptq L g.sw (m.w + 1), wgo { wq m with part := low m.w, last := wmin ((low m.w + 1) * g.per) g.n } (low m.w * g.per + 1))
     else (L, { wq m with pc := 0 }))
  else if m.pc = 3 then (L, if ldq L (g.st m.v) = 1 then { wq m with pc := 4 } else wgo (wq m) (m.v + 1))
  else if m.pc = 4 then (L, if ldq L (g.ma m.v) < m.cy then { wq m with pc := 5 } else wgo (wq m) (m.v + 1))
  else if m.pc = 5 then (ptq L (g.st m.v) 0, { m with ek := 5, ea := m.v, x := mPush (g.hk (g.cl m.v)) m.v, pc := 6 })
  else if m.pc = 6 then ((sstp L m.x).1, if (sstp L m.x).2.pc = 0 then wgo { wq m with x := (sstp L m.x).2 } (m.v + 1) else { wq m with x := (sstp L m.x).2 })
  else if m.pc = 7 then (ptq L g.dn ((ldq L g.dn + 1) % 18446744073709551616), { m with ek := 6, ea := m.part, pc := 0 })
  else (L, wq m)
def xnone : Sm := ⟨0, 0, ⟨0, []⟩, 0, 0, 0, 0⟩
def wNew (cy : Int) : Wn := ⟨1, cy, 0, -1, 0, 0, xnone, 0, 0⟩

/-- Places of n nodes among N words, all apart. -/
structure Gw (n N : Nat) (g : Wg) : Prop where
  n0 : g.n = n
  n1 : 1 ≤ n
  n9 : n ≤ 1000
  per : 1 ≤ g.per
  sw : 0 ≤ g.sw ∧ g.sw < N
  dn : 0 ≤ g.dn ∧ g.dn < N
  sd : g.sw ≠ g.dn
  cl : ∀ v : Int, 1 ≤ v → v ≤ n → g.cl v < 5
  s : ∀ v : Int, 1 ≤ v → v ≤ n → 0 ≤ g.st v ∧ g.st v < N ∧ g.st v ≠ g.sw ∧ g.st v ≠ g.dn
  m : ∀ v : Int, 1 ≤ v → v ≤ n → 0 ≤ g.ma v ∧ g.ma v < N ∧ g.ma v ≠ g.sw ∧ g.ma v ≠ g.dn
  si : ∀ v u : Int, 1 ≤ v → v ≤ n → 1 ≤ u → u ≤ n → g.st v = g.st u → v = u
  sm : ∀ v u : Int, 1 ≤ v → v ≤ n → 1 ≤ u → u ≤ n → g.st v ≠ g.ma u
  k : ∀ c : Nat, c < 5 → Gk n N (g.hk c)
  kl : ∀ c d : Nat, c < 5 → d < 5 → (g.hk c).links = (g.hk d).links
  kh : ∀ c d : Nat, c < 5 → d < 5 → (g.hk c).head = (g.hk d).head → c = d
  h : ∀ c : Nat, c < 5 → (g.hk c).head ≠ g.sw ∧ (g.hk c).head ≠ g.dn ∧ ∀ v : Int, 1 ≤ v → v ≤ n → (g.hk c).head ≠ g.st v ∧ (g.hk c).head ≠ g.ma v
  hl : ∀ (c d : Nat) (x : Int), c < 5 → d < 5 → 1 ≤ x → x ≤ n → atOf (g.hk c).links x ≠ (g.hk d).head
  l : ∀ (c : Nat) (x : Int), c < 5 → 1 ≤ x → x ≤ n → atOf (g.hk c).links x ≠ g.sw ∧ atOf (g.hk c).links x ≠ g.dn ∧ ∀ v : Int, 1 ≤ v → v ≤ n → atOf (g.hk c).links x ≠ g.st v ∧ atOf (g.hk c).links x ≠ g.ma v

/-! Parts and nodes. -/
/-- Is a node one of a part? -/
def InPt (g : Wg) (j u : Int) : Prop := j * g.per < u ∧ u ≤ (j + 1) * g.per
theorem pt_lt {g : Wg} (h : 1 ≤ g.per) {i j u v : Int} (hu : InPt g i u) (hv : InPt g j v) (hij : i < j) : u < v := by
  have : (i + 1) * g.per ≤ j * g.per := Int.mul_le_mul_of_nonneg_right (by omega) (by omega)
  have h1 := hu.2
  have h2 := hv.1
  omega
theorem pt_ne {g : Wg} (h : 1 ≤ g.per) {i j u v : Int} (hu : InPt g i u) (hv : InPt g j v) (hij : i ≠ j) : u ≠ v := by
  rcases Int.lt_or_gt_of_ne hij with x | x
  · have := pt_lt h hu hv x; omega
  · have := pt_lt h hv hu x; omega
theorem pt_ex {g : Wg} (h : 1 ≤ g.per) (u : Int) : InPt g ((u - 1) / g.per) u := by
  have h1 := Int.emod_add_mul_ediv (u - 1) g.per
  have h2 := Int.emod_nonneg (u - 1) (show g.per ≠ 0 by omega)
  have h3 := Int.emod_lt_of_pos (u - 1) (show 0 < g.per by omega)
  have e : ((u - 1) / g.per) * g.per = g.per * ((u - 1) / g.per) := Int.mul_comm _ _
  refine ⟨by omega, ?_⟩
  rw [Int.add_mul, Int.one_mul]; omega
/-- A part below the last one begins with a node; each node's part is below the last one. -/
theorem part_node {g : Wg} (h : 1 ≤ g.per) {j : Int} (hj : j < g.parts) : j * g.per + 1 ≤ g.n := by
  unfold Wg.parts at hj
  have h1 := Int.mul_ediv_self_le (x := g.n + g.per - 1) (show g.per ≠ 0 by omega)
  have h2 : (j + 1) * g.per ≤ (g.n + g.per - 1) / g.per * g.per := Int.mul_le_mul_of_nonneg_right (by omega) (by omega)
  rw [Int.mul_comm ((g.n + g.per - 1) / g.per)] at h2
  rw [Int.add_mul, Int.one_mul] at h2
  omega
theorem node_part {g : Wg} (h : 1 ≤ g.per) {j u : Int} (hu : InPt g j u) (h1 : 1 ≤ u) (hn : u ≤ g.n) : 0 ≤ j ∧ j < g.parts := by
  obtain ⟨a, b⟩ := hu
  constructor
  · rcases Int.lt_or_le j 0 with x | x
    · have : (j + 1) * g.per ≤ 0 := Int.mul_nonpos_of_nonpos_of_nonneg (by omega) (by omega)
      omega
    · exact x
  · unfold Wg.parts
    refine Int.lt_of_lt_of_le (Int.lt_succ j) ?_
    apply Int.le_ediv_of_mul_le (by omega)
    show (j + 1) * g.per ≤ _
    rw [Int.add_mul, Int.one_mul]; omega
theorem parts_pos {n N : Nat} {g : Wg} (G : Gw n N g) : 1 ≤ g.parts ∧ g.parts ≤ n := by
  have h := G.per
  have h0 := G.n0
  have h1 := G.n1
  constructor
  · have := node_part h (pt_ex h 1) (by omega) (by omega); omega
  · unfold Wg.parts
    have : (g.n + g.per - 1) / g.per < (n : Int) + 1 := by
      apply Int.ediv_lt_of_lt_mul (by omega)
      have : (n : Int) * 1 ≤ (n : Int) * g.per := Int.mul_le_mul_of_nonneg_left h (by omega)
      rw [Int.add_mul, Int.one_mul]; omega
    omega

/-! Three at once. -/
/-- Was a node there without the mark? -/
def Gone (g : Wg) (L0 : List Int) (cy v : Int) : Prop := L0.getD (g.st v).toNat 0 = 1 ∧ L0.getD (g.ma v).toNat 0 < cy
/-- How one machine stands; F: which nodes it has come to (0: not yet, 1: is being put to the free ones, 2: done). -/
structure MI (n : Nat) (g : Wg) (cy : Int) (L0 L : List Int) (T : Int) (F : Int → Nat) (PD : Int → Bool) (Ts : Nat → Int) (Qs : Nat → List Int) (m : Wn) : Prop where
  cyc : m.cy = cy
  pc : m.pc ≤ 7
  p2 : m.pc = 2 → ∃ T', m.w = cy % 4294967296 * 4294967296 + T' ∧ 0 ≤ T' ∧ T' ≤ T ∧ T' < g.parts
  pt : 3 ≤ m.pc → (0 ≤ m.part ∧ m.part < T) ∧ PD m.part = false ∧ m.last = wmin ((m.part + 1) * g.per) g.n ∧ (m.part * g.per + 1 ≤ m.v ∧ m.v ≤ m.last + 1) ∧
    ∀ u : Int, 1 ≤ u → u ≤ n → InPt g m.part u → (u < m.v → F u = 2) ∧ (m.v < u → F u = 0)
  p6 : 3 ≤ m.pc → m.pc ≤ 6 → m.v ≤ m.last
  f0 : 3 ≤ m.pc → m.pc ≤ 5 → F m.v = 0
  p4 : m.pc = 4 → L0.getD (g.st m.v).toNat 0 = 1
  p5 : m.pc = 5 → Gone g L0 cy m.v
  x6 : m.pc = 6 → F m.v = 1 ∧ Gone g L0 cy m.v ∧ Sp n (g.hk (g.cl m.v)) L (Ts (g.cl m.v)) (Qs (g.cl m.v)) m.x ∧ m.x.kind = 1 ∧ m.x.item = m.v ∧ m.x.pc ≠ 0
  p7 : m.pc = 7 → m.v = m.last + 1
/-- How memory and three machines stand. -/
structure SI (n : Nat) (g : Wg) (cy : Int) (L0 L : List Int) (T : Int) (F : Int → Nat) (PD : Int → Bool) (Ts : Nat → Int) (Qs : Nat → List Int) (M : Nat → Wn) : Prop where
  gw : Gw n L.length g
  len : L.length = L0.length
  sw : L.getD g.sw.toNat 0 = cy % 4294967296 * 4294967296 + T
  t : 0 ≤ T ∧ T ≤ g.parts
  ma : ∀ v : Int, 1 ≤ v → v ≤ n → L.getD (g.ma v).toNat 0 = L0.getD (g.ma v).toNat 0
  st0 : ∀ v : Int, 1 ≤ v → v ≤ n → (F v = 0 ∨ ¬ Gone g L0 cy v) → L.getD (g.st v).toNat 0 = L0.getD (g.st v).toNat 0
  st1 : ∀ v : Int, 1 ≤ v → v ≤ n → F v ≠ 0 → Gone g L0 cy v → L.getD (g.st v).toNat 0 = 0
  f : ∀ v : Int, 1 ≤ v → v ≤ n → F v ≤ 2
  sk : ∀ c : Nat, c < 5 → Stk n (g.hk c) L (Ts c) (Qs c) ∧ Ts c = (Qs c).length
  q : ∀ c : Nat, c < 5 → ∀ v : Int, v ∈ Qs c ↔ ((1 ≤ v ∧ v ≤ n) ∧ F v = 2 ∧ Gone g L0 cy v ∧ g.cl v = c)
  pd : ∀ j : Int, PD j = true → (0 ≤ j ∧ j < T) ∧ ∀ v : Int, 1 ≤ v → v ≤ n → InPt g j v → F v = 2
  un : ∀ j v : Int, 1 ≤ v → v ≤ n → InPt g j v → T ≤ j → F v = 0
  ow : ∀ j : Int, 0 ≤ j → j < T → PD j = false → ∃ k, k < 3 ∧ 3 ≤ (M k).pc ∧ (M k).part = j
  mi : ∀ k, k < 3 → MI n g cy L0 L T F PD Ts Qs (M k)
  ds : ∀ k i, k < 3 → i < 3 → k ≠ i → 3 ≤ (M k).pc → 3 ≤ (M i).pc → (M k).part ≠ (M i).part
  dn : L.getD g.dn.toNat 0 = ((List.range g.parts.toNat).countP fun (j : Nat) => PD (j : Int) : Nat)
/-- One of a function's values is another one. -/
def fset {α : Type} (f : Nat → α) (k : Nat) (a : α) : Nat → α := fun i => if i = k then a else f i
theorem fset_same {α : Type} (f : Nat → α) (k : Nat) (a : α) : fset f k a k = a := if_pos rfl
theorem fset_other {α : Type} {f : Nat → α} {k i : Nat} (a : α) (h : i ≠ k) : fset f k a i = f i := if_neg h
def iset {α : Type} (f : Int → α) (k : Int) (a : α) : Int → α := fun i => if i = k then a else f i
theorem iset_same {α : Type} (f : Int → α) (k : Int) (a : α) : iset f k a k = a := if_pos rfl
theorem iset_other {α : Type} {f : Int → α} {k i : Int} (a : α) (h : i ≠ k) : iset f k a i = f i := if_neg h
section
variable {n : Nat} {g : Wg} {cy : Int} {L0 L L' : List Int} {T T' : Int} {F F' : Int → Nat} {PD PD' : Int → Bool} {Ts Ts' : Nat → Int} {Qs Qs' : Nat → List Int} {M : Nat → Wn} {m m' : Wn} {k : Nat}
/-- Another one's step. -/
theorem MI.mono (h : MI n g cy L0 L T F PD Ts Qs m) (hT : T ≤ T') (hF : ∀ u : Int, 3 ≤ m.pc → 1 ≤ u → u ≤ n → InPt g m.part u → F' u = F u) (hP : 3 ≤ m.pc → PD' m.part = PD m.part)
    (hv : 3 ≤ m.pc → m.pc ≤ 6 → 1 ≤ m.v ∧ m.v ≤ n ∧ InPt g m.part m.v)
    (hS : m.pc = 6 → Sp n (g.hk (g.cl m.v)) L (Ts (g.cl m.v)) (Qs (g.cl m.v)) m.x → Sp n (g.hk (g.cl m.v)) L' (Ts' (g.cl m.v)) (Qs' (g.cl m.v)) m.x) : MI n g cy L0 L' T' F' PD' Ts' Qs' m := by
  refine ⟨h.cyc, h.pc, fun e => ?_, fun e => ?_, h.p6, fun e e2 => ?_, h.p4, h.p5, fun e => ?_, h.p7⟩
  · obtain ⟨t, a, b, c, d⟩ := h.p2 e; exact ⟨t, a, b, by omega, d⟩
  · obtain ⟨a, b, c, d, f⟩ := h.pt e
    exact ⟨by omega, by rw [hP e]; exact b, c, d, fun u u1 u2 u3 => by rw [hF u e u1 u2 u3]; exact f u u1 u2 u3⟩
  · obtain ⟨a, b, c⟩ := hv e (by omega)
    rw [hF _ e a b c]; exact h.f0 e e2
  · obtain ⟨a, b, c⟩ := hv (by omega) (by omega)
    obtain ⟨d, e1, e2, e3⟩ := h.x6 e
    exact ⟨by rw [hF _ (by omega) a b c]; exact d, e1, hS e e2, e3⟩
/-- A node that it stands at is one of its part. -/
theorem MI.node (h : MI n g cy L0 L T F PD Ts Qs m) (hg : g.n = n) (hper : 1 ≤ g.per) (a : 3 ≤ m.pc) (b : m.pc ≤ 6) : 1 ≤ m.v ∧ m.v ≤ n ∧ InPt g m.part m.v := by
  obtain ⟨⟨p0, _⟩, _, hl, ⟨h1, h2⟩, _⟩ := h.pt a
  have h3 := h.p6 a b
  have h4 : 0 ≤ m.part * g.per := Int.mul_nonneg p0 (by omega)
  have h5 : m.last ≤ (m.part + 1) * g.per ∧ m.last ≤ g.n := by rw [hl]; unfold wmin; split <;> omega
  exact ⟨by omega, by omega, by omega, by omega⟩
/-- A machine that only turned elsewhere: nothing else changed. -/
theorem SI.turn (h : SI n g cy L0 L T F PD Ts Qs M) (hk : k < 3) (hm : MI n g cy L0 L T F PD Ts Qs m') (hp : 3 ≤ (M k).pc ↔ 3 ≤ m'.pc) (hpt : 3 ≤ m'.pc → m'.part = (M k).part) : SI n g cy L0 L T F PD Ts Qs (fset M k m') := by
  have key : ∀ i, 3 ≤ (fset M k m' i).pc → 3 ≤ (M i).pc ∧ (fset M k m' i).part = (M i).part := fun i hi => by
    by_cases e : i = k
    · subst e; rw [fset_same] at hi ⊢; exact ⟨hp.2 hi, hpt hi⟩
    · rw [fset_other _ e] at hi ⊢; exact ⟨hi, rfl⟩
  refine ⟨h.gw, h.len, h.sw, h.t, h.ma, h.st0, h.st1, h.f, h.sk, h.q, h.pd, h.un, fun j a b c => ?_, fun i hi => ?_, fun i j hi hj hne a b => ?_, h.dn⟩
  · obtain ⟨i, hi, p, e⟩ := h.ow j a b c
    refine ⟨i, hi, ?_⟩
    by_cases e2 : i = k
    · subst e2; rw [fset_same]; exact ⟨hp.1 p, by rw [hpt (hp.1 p)]; exact e⟩
    · rw [fset_other _ e2]; exact ⟨p, e⟩
  · by_cases e : i = k
    · subst e; rw [fset_same]; exact hm
    · rw [fset_other _ e]; exact h.mi i hi
  · obtain ⟨a1, a2⟩ := key i a
    obtain ⟨b1, b2⟩ := key j b
    rw [a2, b2]; exact h.ds i j hi hj hne a1 b1
/-- The next node: it is done with the one where it stands. -/
theorem MI.next (h : MI n g cy L0 L T F PD Ts Qs m) (hn : g.n = n) (hper : 1 ≤ g.per) (a : 3 ≤ m.pc) (b : m.pc ≤ 6) (hT : T ≤ T') (hP : PD' m.part = PD m.part) (h2 : F' m.v = 2) (hF : ∀ u : Int, u ≠ m.v → F' u = F u)
    (hm : m'.cy = m.cy ∧ m'.part = m.part ∧ m'.last = m.last) : MI n g cy L0 L' T' F' PD' Ts' Qs' (wgo m' (m.v + 1)) := by
  obtain ⟨e1, e2, e3⟩ := hm
  obtain ⟨hp, hpd, hl, hv, hu⟩ := h.pt a
  have h6 := h.p6 a b
  obtain ⟨_, _, hin⟩ := h.node hn hper a b
  have hlast : m.last ≤ (m.part + 1) * g.per ∧ m.last ≤ g.n := by rw [hl]; unfold wmin; split <;> omega
  have hpc : (wgo m' (m.v + 1)).pc = if m.v + 1 ≤ m.last then 3 else 7 := by unfold wgo; rw [e3]
  refine ⟨by show m'.cy = cy; rw [e1]; exact h.cyc, by rw [hpc]; split <;> omega, fun e => by rw [hpc] at e; split at e <;> omega, fun _ => ?_, fun _ e => ?_, fun _ e => ?_, fun e => by rw [hpc] at e; split at e <;> omega, fun e => by rw [hpc] at e; split at e <;> omega, fun e => by rw [hpc] at e; split at e <;> omega, fun e => ?_⟩
  · show (0 ≤ m'.part ∧ m'.part < T') ∧ PD' m'.part = false ∧ m'.last = wmin ((m'.part + 1) * g.per) g.n ∧ (m'.part * g.per + 1 ≤ m.v + 1 ∧ m.v + 1 ≤ m'.last + 1) ∧ ∀ u : Int, 1 ≤ u → u ≤ n → InPt g m'.part u → (u < m.v + 1 → F' u = 2) ∧ (m.v + 1 < u → F' u = 0)
    rw [e2, e3]
    refine ⟨by omega, by rw [hP]; exact hpd, hl, by omega, fun u u1 u2 u3 => ⟨fun hlt => ?_, fun hlt => ?_⟩⟩
    · by_cases e : u = m.v
      · rw [e]; exact h2
      · rw [hF u e]; exact (hu u u1 u2 u3).1 (by omega)
    · rw [hF u (by omega)]; exact (hu u u1 u2 u3).2 (by omega)
  · show m.v + 1 ≤ m'.last
    rw [e3]; rw [hpc] at e; split at e <;> omega
  · show F' (m.v + 1) = 0
    have hlt : m.v + 1 ≤ m.last := by rw [hpc] at e; split at e <;> omega
    rw [hF _ (by omega)]
    exact (hu (m.v + 1) (by omega) (by omega) ⟨by have := hin.1; omega, by omega⟩).2 (by omega)
  · show m.v + 1 = m'.last + 1
    rw [e3]; rw [hpc] at e; split at e <;> omega
/-- A word that is no stack's may change. -/
theorem stk_word {p v : Int} {c : Nat} {T : Int} {Q : List Int} (G : Gw n L.length g) (hc : c < 5) (H : Stk n (g.hk c) L T Q) (h1 : ∀ d, d < 5 → (g.hk d).head ≠ p) (h2 : ∀ (d : Nat) (x : Int), d < 5 → 1 ≤ x → x ≤ n → atOf (g.hk d).links x ≠ p) : Stk n (g.hk c) (ptq L p v) T Q :=
  H.word (fun e => h1 c hc e.symm) fun q hq e => h2 c q hc (H.rng q hq).1 (H.rng q hq).2 e.symm
theorem lkw_word {p v x : Int} {c : Nat} (G : Gw n L.length g) (hc : c < 5) (h0 : 1 ≤ x) (h9 : x ≤ n) (h2 : ∀ (d : Nat) (x : Int), d < 5 → 1 ≤ x → x ≤ n → atOf (g.hk d).links x ≠ p) : lkw (g.hk c) (ptq L p v) x = lkw (g.hk c) L x :=
  pt_other ((G.k c hc).lk x h0 h9).1 (h2 c x hc h0 h9)
theorem Gw.len' {N' : Nat} (G : Gw n L.length g) (e : N' = L.length) : Gw n N' g := e ▸ G
/-- How many there are of a kind, when one is no longer. -/
theorem cnt_upd (p p' : Nat → Bool) (i : Nat) (h1 : p i = true) (h2 : p' i = false) (h3 : ∀ j, j ≠ i → p' j = p j) : ∀ N : Nat, i < N → (List.range N).countP p' + 1 = (List.range N).countP p
  | 0, h => by omega
  | N + 1, h => by
    rw [List.range_succ, List.countP_append, List.countP_append]
    by_cases e : i = N
    · subst e
      have : (List.range i).countP p' = (List.range i).countP p := List.countP_congr fun x hx => by rw [h3 x (by have := List.mem_range.1 hx; omega)]
      simp [h1, h2, this]
    · have ih := cnt_upd p p' i h1 h2 h3 N (by omega)
      have : p' N = p N := h3 N (fun e2 => e e2.symm)
      simp only [List.countP_singleton, this]
      omega
/-- Nodes that aren't done. -/
def wleft (n : Nat) (F : Int → Nat) : Nat := (List.range n).countP fun (v : Nat) => decide (F ((v : Int) + 1) ≠ 2)
theorem wleft_done {v : Int} (h1 : 1 ≤ v) (hn : v ≤ n) (h : F v ≠ 2) (h2 : F' v = 2) (ho : ∀ u, u ≠ v → F' u = F u) : wleft n F' + 1 = wleft n F := by
  refine cnt_upd _ _ (v - 1).toNat ?_ ?_ (fun j hj => ?_) n (by omega)
  · rw [show (((v - 1).toNat : Nat) : Int) + 1 = v by omega]; simpa using h
  · rw [show (((v - 1).toNat : Nat) : Int) + 1 = v by omega]; simpa using h2
  · rw [ho _ (by omega)]
theorem wleft_same (h : ∀ u, (F' u = 2 ↔ F u = 2)) : wleft n F' = wleft n F := List.countP_congr fun x _ => by simp [h]
/-- How many own steps a machine has left with its part, if nobody else turns a head. -/
def wdue (g : Wg) (Ts : Nat → Int) (m : Wn) : Int :=
  if m.pc = 3 then 6 * (m.last - m.v) + 7 else if m.pc = 4 then 6 * (m.last - m.v) + 6 else if m.pc = 5 then 6 * (m.last - m.v) + 5
  else if m.pc = 6 then 6 * (m.last - m.v) + due (Ts (g.cl m.v)) m.x + 1 else if m.pc = 7 then 1 else 0
theorem wdue_go (hl : m.v ≤ m.last) (e : m'.last = m.last) : wdue g Ts (wgo m' (m.v + 1)) ≤ 6 * (m.last - m.v) + 1 := by
  unfold wdue wgo
  by_cases h : m.v + 1 ≤ m'.last
  · rw [if_pos h]; simp only [if_true]; omega
  · rw [if_neg h]; simp; omega
/-- What a step told. -/
inductive SwEv (n : Nat) (g : Wg) (cy : Int) (L0 : List Int) (F F' : Int → Nat) (PD PD' : Int → Bool) : Int → Int → Prop
  | free (v : Int) (h1 : 1 ≤ v ∧ v ≤ n) (h2 : F v = 0) (h3 : Gone g L0 cy v) (h4 : F' = iset F v 1) (h5 : PD' = PD) : SwEv n g cy L0 F F' PD PD' 5 v
  | part (j : Int) (h1 : 0 ≤ j ∧ j < g.parts) (h2 : PD j = false) (h4 : PD' = iset PD j true) (h5 : F' = F) : SwEv n g cy L0 F F' PD PD' 6 j
  | none (h4 : PD' = PD) (h5 : ∀ v : Int, 1 ≤ v → v ≤ n → Gone g L0 cy v → (F' v = 0 ↔ F v = 0)) : SwEv n g cy L0 F F' PD PD' 0 0
/-- What comes of a step by the k-th one. -/
def Stepped (n : Nat) (g : Wg) (cy : Int) (L0 : List Int) (L : List Int) (T : Int) (F : Int → Nat) (PD : Int → Bool) (Ts : Nat → Int) (M : Nat → Wn) (k : Nat) (L' : List Int) (m' : Wn) : Prop :=
  ∃ T' F' PD' Ts' Qs', SI n g cy L0 L' T' F' PD' Ts' Qs' (fset M k m') ∧ SwEv n g cy L0 F F' PD PD' m'.ek m'.ea ∧
    (T' = T ∨ (T' = T + 1 ∧ (M k).pc = 2 ∧ (M k).w = cy % 4294967296 * 4294967296 + T ∧ m'.v = T * g.per + 1 ∧ m'.last = wmin ((T + 1) * g.per) g.n ∧ m'.pc = 3)) ∧
    (3 ≤ (M k).pc → wdue g Ts' m' + 1 ≤ wdue g Ts (M k)) ∧
    (wleft n F' : Int) ≤ wleft n F ∧
    (∀ i, i < 3 → i ≠ k → wdue g Ts' (M i) + 3 * (wleft n F' : Int) ≤ wdue g Ts (M i) + 3 * (wleft n F : Int)) ∧
    ((M k).pc < 3 → T' = T → m'.pc < 3 ∧ ((M k).pc = 1 → T < g.parts → m'.pc = 2 ∧ m'.w = cy % 4294967296 * 4294967296 + T) ∧ ((M k).pc = 2 → (M k).w ≠ cy % 4294967296 * 4294967296 + T ∧ m'.pc = 0)) ∧
    (T' = T → 3 ≤ (M k).pc → 3 ≤ m'.pc ∨ m'.pc = 0)
/-- Where nothing changed but the machine. -/
theorem SI.stepTurn (h : SI n g cy L0 L T F PD Ts Qs M) (hk : k < 3) (hm : MI n g cy L0 L T F PD Ts Qs m') (hp : 3 ≤ (M k).pc ↔ 3 ≤ m'.pc) (hpt : 3 ≤ m'.pc → m'.part = (M k).part) (he : m'.ek = 0 ∧ m'.ea = 0)
    (hd : 3 ≤ (M k).pc → wdue g Ts m' + 1 ≤ wdue g Ts (M k))
    (h2 : (M k).pc < 3 → m'.pc < 3 ∧ ((M k).pc = 1 → T < g.parts → m'.pc = 2 ∧ m'.w = cy % 4294967296 * 4294967296 + T) ∧ ((M k).pc = 2 → (M k).w ≠ cy % 4294967296 * 4294967296 + T ∧ m'.pc = 0)) : Stepped n g cy L0 L T F PD Ts M k L m' := by
  refine ⟨T, F, PD, Ts, Qs, h.turn hk hm hp hpt, ?_, .inl rfl, fun e => by have := hd e; omega, Int.le_refl _, fun i _ _ => Int.le_refl _, fun e _ => h2 e, fun _ e => .inl (hp.1 e)⟩
  rw [he.1, he.2]
  exact .none rfl fun v _ _ _ => Iff.rfl
theorem hi_w {c T : Int} (h0 : 0 ≤ T) (h1 : T < 4294967296) : hiw (c % 4294967296 * 4294967296 + T) = c % 4294967296 ∧ low (c % 4294967296 * 4294967296 + T) = T := by
  unfold hiw low; omega
/-- A machine with no part that looks for one. -/
theorem SI.step1 (h : SI n g cy L0 L T F PD Ts Qs M) (hk : k < 3) (hp : (M k).pc = 1) : Stepped n g cy L0 L T F PD Ts M k (wstp g L (M k)).1 (wstp g L (M k)).2 := by
  have G := h.gw
  have hP := parts_pos G
  have h9 := G.n9
  have ht := h.t
  have e0 : ldq L g.sw = cy % 4294967296 * 4294967296 + T := by rw [ld_in G.sw]; exact h.sw
  obtain ⟨eh, el⟩ := hi_w (c := cy) ht.1 (show T < 4294967296 by omega)
  have mi := h.mi k hk
  have ec := mi.cyc
  by_cases hT : T < g.parts
  · have es : wstp g L (M k) = (L, { wq (M k) with w := cy % 4294967296 * 4294967296 + T, pc := 2 }) := by
      unfold wstp; rw [if_pos hp, e0, eh, el, ec, if_pos ⟨rfl, hT⟩]
    rw [es]
    refine h.stepTurn hk ⟨ec, by simp, fun _ => ⟨T, rfl, ht.1, Int.le_refl _, hT⟩, fun e => by simp at e, fun e => by simp at e, fun e => by simp at e, fun e => by simp at e, fun e => by simp at e, fun e => by simp at e, fun e => by simp at e⟩ ?_ (fun e => by simp at e) ⟨rfl, rfl⟩ (fun e => by omega) (fun _ => ⟨by simp, fun _ _ => ⟨rfl, rfl⟩, fun e => by omega⟩)
    constructor
    · intro e; omega
    · intro e; simp at e
  · have es : wstp g L (M k) = (L, { wq (M k) with w := cy % 4294967296 * 4294967296 + T, pc := 0 }) := by
      unfold wstp; rw [if_pos hp, e0, eh, el, ec, if_neg (fun e => hT e.2)]
    rw [es]
    refine h.stepTurn hk ⟨ec, by simp, fun e => by simp at e, fun e => by simp at e, fun e => by simp at e, fun e => by simp at e, fun e => by simp at e, fun e => by simp at e, fun e => by simp at e, fun e => by simp at e⟩ ?_ (fun e => by simp at e) ⟨rfl, rfl⟩ (fun e => by omega) (fun _ => ⟨by simp, fun _ e => absurd e hT, fun e => by omega⟩)
    constructor
    · intro e; omega
    · intro e; simp at e
theorem SI.step0 (h : SI n g cy L0 L T F PD Ts Qs M) (hk : k < 3) (hp : (M k).pc = 0) : Stepped n g cy L0 L T F PD Ts M k (wstp g L (M k)).1 (wstp g L (M k)).2 := by
  have mi := h.mi k hk
  have es : wstp g L (M k) = (L, wq (M k)) := by unfold wstp; simp [hp]
  rw [es]
  refine h.stepTurn hk ⟨mi.cyc, mi.pc, mi.p2, mi.pt, mi.p6, mi.f0, mi.p4, mi.p5, mi.x6, mi.p7⟩ Iff.rfl (fun _ => rfl) ⟨rfl, rfl⟩ (fun e => by omega) (fun _ => ⟨by show (M k).pc < 3; omega, fun e => by omega, fun e => by omega⟩)
/-- It takes one, or doesn't. -/
theorem SI.step2 (h : SI n g cy L0 L T F PD Ts Qs M) (hk : k < 3) (hp : (M k).pc = 2) : Stepped n g cy L0 L T F PD Ts M k (wstp g L (M k)).1 (wstp g L (M k)).2 := by
  have G := h.gw
  have hP := parts_pos G
  have h9 := G.n9
  have ht := h.t
  have mi := h.mi k hk
  obtain ⟨T', ew, t0, t1, t2⟩ := mi.p2 hp
  have hper := G.per
  by_cases hT : T' = T
  · subst hT
    obtain ⟨eh, el⟩ := hi_w (c := cy) ht.1 (show T' < 4294967296 by omega)
    have hnode := part_node hper t2
    have hn := G.n0
    have es : wstp g L (M k) = (ptq L g.sw (cy % 4294967296 * 4294967296 + (T' + 1)), wgo { wq (M k) with part := T', last := wmin ((T' + 1) * g.per) g.n } (T' * g.per + 1)) := by
      unfold wstp; rw [if_neg (by omega), if_pos hp, if_pos ⟨G.sw, by rw [ew]; exact h.sw⟩, ew, el, Int.add_assoc]
    have hlast : T' * g.per + 1 ≤ wmin ((T' + 1) * g.per) g.n := by
      unfold wmin; rw [Int.add_mul, Int.one_mul]; split <;> omega
    have epc : (wgo { wq (M k) with part := T', last := wmin ((T' + 1) * g.per) g.n } (T' * g.per + 1)) = { wq (M k) with part := T', last := wmin ((T' + 1) * g.per) g.n, v := T' * g.per + 1, pc := 3 } := by
      unfold wgo; rw [if_pos hlast]
    rw [epc] at es
    rw [es]
    have w1 : ∀ d, d < 5 → (g.hk d).head ≠ g.sw := fun d hd => (G.h d hd).1
    have w2 : ∀ (d : Nat) (x : Int), d < 5 → 1 ≤ x → x ≤ n → atOf (g.hk d).links x ≠ g.sw := fun d x hd a b => (G.l d x hd a b).1
    have hmi : ∀ i, i < 3 → i ≠ k → MI n g cy L0 (ptq L g.sw (cy % 4294967296 * 4294967296 + (T' + 1))) (T' + 1) F PD Ts Qs (M i) := fun i hi hne =>
      (h.mi i hi).mono (by omega) (fun u _ _ _ _ => rfl) (fun _ => rfl) (fun a b => (h.mi i hi).node hn hper a b) fun e P => P.mono (Int.le_refl _) (fun _ => rfl) fun _ _ => by
        obtain ⟨v1, v2, _⟩ := (h.mi i hi).node hn hper (by omega) (by omega)
        obtain ⟨f1, f2, _, _, ei, _⟩ := (h.mi i hi).x6 e
        rw [ei]
        have hc := G.cl _ v1 v2
        exact ⟨fun hq => by have := ((h.q _ hc _).1 hq).2.1; omega, lkw_word G hc v1 v2 w2⟩
    have hwm : ∀ a b : Int, wmin a b ≤ a ∧ wmin a b ≤ b := fun a b => by unfold wmin; split <;> omega
    refine ⟨T' + 1, F, PD, Ts, Qs, ⟨by rw [pt_len]; exact G, by rw [pt_len]; exact h.len, by rw [pt_same G.sw], by omega, fun v a b => ?_, fun v a b c => ?_, fun v a b c d => ?_, h.f, fun c hc => ⟨stk_word G hc (h.sk c hc).1 w1 w2, (h.sk c hc).2⟩, h.q, fun j hj => ?_, fun j v a b c d => h.un j v a b c (by omega), fun j a b c => ?_, fun i hi => ?_, fun i j hi hj hne a b => ?_, ?_⟩, .none rfl fun v _ _ _ => Iff.rfl, .inr ⟨rfl, hp, ew, rfl, rfl, rfl⟩, fun e => by omega, Int.le_refl _, fun i _ _ => Int.le_refl _, fun _ e => by omega, fun e => by omega⟩
    · rw [pt_other (G.m v a b).1 (G.m v a b).2.2.1]; exact h.ma v a b
    · rw [pt_other (G.s v a b).1 (G.s v a b).2.2.1]; exact h.st0 v a b c
    · rw [pt_other (G.s v a b).1 (G.s v a b).2.2.1]; exact h.st1 v a b c d
    · obtain ⟨a, b⟩ := h.pd j hj; exact ⟨by omega, b⟩
    · by_cases e : j = T'
      · exact ⟨k, hk, by rw [fset_same]; exact ⟨by simp, e.symm⟩⟩
      · obtain ⟨i, hi, p, ep⟩ := h.ow j a (by omega) c
        refine ⟨i, hi, ?_⟩
        rw [fset_other _ (fun e2 => by subst e2; omega)]; exact ⟨p, ep⟩
    · by_cases e : i = k
      · subst e
        rw [fset_same]
        have hPD : PD T' = false := by
          cases hb : PD T' with
          | false => rfl
          | true => have := (h.pd T' hb).1; omega
        refine ⟨mi.cyc, by simp, fun e => by simp at e, fun _ => ⟨by dsimp only; omega, hPD, rfl, by dsimp only; omega, fun u u1 u2 u3 => ?_⟩, fun _ _ => hlast, fun _ _ => ?_, fun e => by simp at e, fun e => by simp at e, fun e => by simp at e, fun e => by simp at e⟩
        · have := h.un T' u u1 u2 u3 (Int.le_refl _)
          have hu : T' * g.per < u := u3.1
          refine ⟨fun hlt => ?_, fun _ => this⟩
          dsimp only at hlt; omega
        · show F (T' * g.per + 1) = 0
          have hb := hwm ((T' + 1) * g.per) g.n
          have h0 : 0 ≤ T' * g.per := Int.mul_nonneg ht.1 (by omega)
          exact h.un T' _ (by omega) (by omega) ⟨by omega, by omega⟩ (Int.le_refl _)
      · rw [fset_other _ e]; exact hmi i hi e
    · by_cases e : i = k
      · subst e
        rw [fset_same] at a ⊢
        rw [fset_other _ (fun e2 => hne e2.symm)] at b ⊢
        have := ((h.mi j hj).pt b).1
        dsimp only; omega
      · rw [fset_other _ e] at a ⊢
        by_cases e2 : j = k
        · subst e2
          rw [fset_same] at b ⊢
          have := ((h.mi i hi).pt a).1
          dsimp only; omega
        · rw [fset_other _ e2] at b ⊢; exact h.ds i j hi hj hne a b
    · rw [pt_other G.dn.1 G.sd.symm]; exact h.dn
  · have es : wstp g L (M k) = (L, { wq (M k) with pc := 0 }) := by
      unfold wstp; rw [if_neg (by omega), if_pos hp, if_neg]
      rintro ⟨_, e⟩
      rw [h.sw, ew] at e; omega
    rw [es]
    refine h.stepTurn hk ⟨mi.cyc, by simp, fun e => by simp at e, fun e => by simp at e, fun e => by simp at e, fun e => by simp at e, fun e => by simp at e, fun e => by simp at e, fun e => by simp at e, fun e => by simp at e⟩ ?_ (fun e => by simp at e) ⟨rfl, rfl⟩ (fun e => by omega) (fun _ => ⟨by simp, fun e => by omega, fun _ => ⟨by rw [ew]; omega, rfl⟩⟩)
    constructor
    · intro e; omega
    · intro e; simp at e
/-- Another one's node is another one. -/
theorem SI.oth (h : SI n g cy L0 L T F PD Ts Qs M) (hk : k < 3) (a : 3 ≤ (M k).pc) (b : (M k).pc ≤ 6) {i : Nat} (hi : i < 3) (hne : i ≠ k) (ai : 3 ≤ (M i).pc) {u : Int} (hu : InPt g (M i).part u) : u ≠ (M k).v := by
  obtain ⟨_, _, hin⟩ := (h.mi k hk).node h.gw.n0 h.gw.per a b
  exact pt_ne h.gw.per hu hin (h.ds i k hi hk hne ai a)
/-- It is done with a node that isn't freed. -/
theorem SI.skip (h : SI n g cy L0 L T F PD Ts Qs M) (hk : k < 3) (hp : (M k).pc = 3 ∨ (M k).pc = 4) (hg : ¬ Gone g L0 cy (M k).v) : Stepped n g cy L0 L T F PD Ts M k L (wgo (wq (M k)) ((M k).v + 1)) := by
  have G := h.gw
  have mi := h.mi k hk
  have a : 3 ≤ (M k).pc := by omega
  have b : (M k).pc ≤ 6 := by omega
  have f0 := mi.f0 a (by omega)
  have h6 := mi.p6 a b
  obtain ⟨v1, v2, vin⟩ := mi.node G.n0 G.per a b
  obtain ⟨hpt, hpd, hlast, hvr, hu⟩ := mi.pt a
  obtain ⟨F', hF'⟩ : ∃ F', F' = iset F (M k).v 2 := ⟨_, rfl⟩
  have e1 : F' (M k).v = 2 := by rw [hF']; exact iset_same ..
  have e2 : ∀ u, u ≠ (M k).v → F' u = F u := fun u hu => by rw [hF']; exact iset_other _ hu
  have hle := wleft_done v1 v2 (show F (M k).v ≠ 2 by omega) e1 e2
  have hdu : wdue g Ts (wgo (wq (M k)) ((M k).v + 1)) + 1 ≤ wdue g Ts (M k) := by
    have := wdue_go (g := g) (Ts := Ts) (m := M k) (m' := wq (M k)) h6 rfl
    have e : 6 * ((M k).last - (M k).v) + 6 ≤ wdue g Ts (M k) := by
      unfold wdue
      rcases hp with hp | hp
      · rw [if_pos hp]; omega
      · rw [if_neg (by omega), if_pos hp]; omega
    omega
  have hpc : 3 ≤ (wgo (wq (M k)) ((M k).v + 1)).pc := by unfold wgo; dsimp only; split <;> omega
  have hmi : ∀ i, i < 3 → i ≠ k → MI n g cy L0 L T F' PD Ts Qs (M i) := fun i hi hne =>
    (h.mi i hi).mono (Int.le_refl _) (fun u a2 _ _ hu => e2 u (h.oth hk a b hi hne a2 hu)) (fun _ => rfl) (fun a b => (h.mi i hi).node G.n0 G.per a b) fun _ P => P
  refine ⟨T, F', PD, Ts, Qs, ⟨G, h.len, h.sw, h.t, h.ma, fun v a b c => ?_, fun v a b c d => ?_, fun v a b => ?_, h.sk, fun c hc v => ?_, fun j hj => ?_, fun j v a b c d => ?_, fun j a2 b2 c => ?_, fun i hi => ?_, fun i j hi hj hne a2 b2 => ?_, h.dn⟩, .none rfl fun v a b c => ?_, .inl rfl, fun _ => by omega, by omega, fun i _ _ => by omega, fun e => by omega, fun _ _ => .inl hpc⟩
  · by_cases e : v = (M k).v
    · subst e; exact h.st0 _ a b (.inl f0)
    · rw [e2 v e] at c; exact h.st0 v a b c
  · by_cases e : v = (M k).v
    · subst e; exact absurd d hg
    · rw [e2 v e] at c; exact h.st1 v a b c d
  · by_cases e : v = (M k).v
    · subst e; omega
    · rw [e2 v e]; exact h.f v a b
  · by_cases e : v = (M k).v
    · subst e
      constructor
      · intro hq; have := ((h.q c hc _).1 hq).2.1; omega
      · intro hq; exact absurd hq.2.2.1 hg
    · rw [e2 v e]; exact h.q c hc v
  · obtain ⟨x, y⟩ := h.pd j hj
    refine ⟨x, fun v a b c => ?_⟩
    by_cases e : v = (M k).v
    · subst e; exact e1
    · rw [e2 v e]; exact y v a b c
  · by_cases e : v = (M k).v
    · subst e
      have : (M k).part = j := by
        rcases Int.lt_trichotomy (M k).part j with x | x | x
        · exact absurd rfl (pt_ne G.per vin c (by omega))
        · exact x
        · exact absurd rfl (pt_ne G.per vin c (by omega))
      omega
    · rw [e2 v e]; exact h.un j v a b c d
  · obtain ⟨i, hi, p, ep⟩ := h.ow j a2 b2 c
    refine ⟨i, hi, ?_⟩
    by_cases e : i = k
    · subst e; rw [fset_same]; exact ⟨hpc, ep⟩
    · rw [fset_other _ e]; exact ⟨p, ep⟩
  · by_cases e : i = k
    · subst e; rw [fset_same]
      exact mi.next G.n0 G.per a b (Int.le_refl _) rfl e1 e2 ⟨rfl, rfl, rfl⟩
    · rw [fset_other _ e]; exact hmi i hi e
  · have key : ∀ i, 3 ≤ (fset M k (wgo (wq (M k)) ((M k).v + 1)) i).pc → 3 ≤ (M i).pc ∧ (fset M k (wgo (wq (M k)) ((M k).v + 1)) i).part = (M i).part := fun i hi => by
      by_cases e : i = k
      · subst e; rw [fset_same]; exact ⟨a, rfl⟩
      · rw [fset_other _ e] at hi ⊢; exact ⟨hi, rfl⟩
    obtain ⟨x1, x2⟩ := key i a2
    obtain ⟨y1, y2⟩ := key j b2
    rw [x2, y2]; exact h.ds i j hi hj hne x1 y1
  · by_cases e : v = (M k).v
    · subst e; exact absurd c hg
    · rw [e2 v e]
theorem SI.step3 (h : SI n g cy L0 L T F PD Ts Qs M) (hk : k < 3) (hp : (M k).pc = 3) : Stepped n g cy L0 L T F PD Ts M k (wstp g L (M k)).1 (wstp g L (M k)).2 := by
  have G := h.gw
  have mi := h.mi k hk
  obtain ⟨v1, v2, vin⟩ := mi.node G.n0 G.per (by omega) (by omega)
  have f0 := mi.f0 (by omega) (by omega)
  have e0 : ldq L (g.st (M k).v) = L0.getD (g.st (M k).v).toNat 0 := by rw [ld_in ⟨(G.s _ v1 v2).1, (G.s _ v1 v2).2.1⟩]; exact h.st0 _ v1 v2 (.inl f0)
  by_cases h1 : L0.getD (g.st (M k).v).toNat 0 = 1
  · have es : wstp g L (M k) = (L, { wq (M k) with pc := 4 }) := by
      unfold wstp; rw [if_neg (by omega), if_neg (by omega), if_pos hp, e0, if_pos h1]
    rw [es]
    refine h.stepTurn hk ⟨mi.cyc, by simp, fun e => by simp at e, fun _ => mi.pt (by omega), fun _ _ => mi.p6 (by omega) (by omega), fun _ _ => f0, fun _ => h1, fun e => by simp at e, fun e => by simp at e, fun e => by simp at e⟩ ⟨fun _ => by simp, fun _ => by omega⟩ (fun _ => rfl) ⟨rfl, rfl⟩ (fun _ => ?_) (fun e => by omega)
    unfold wdue; rw [if_pos hp]; simp [wq]; omega
  · have es : wstp g L (M k) = (L, wgo (wq (M k)) ((M k).v + 1)) := by
      unfold wstp; rw [if_neg (by omega), if_neg (by omega), if_pos hp, e0, if_neg h1]
    rw [es]
    exact h.skip hk (.inl hp) fun e => h1 e.1
theorem SI.step4 (h : SI n g cy L0 L T F PD Ts Qs M) (hk : k < 3) (hp : (M k).pc = 4) : Stepped n g cy L0 L T F PD Ts M k (wstp g L (M k)).1 (wstp g L (M k)).2 := by
  have G := h.gw
  have mi := h.mi k hk
  obtain ⟨v1, v2, vin⟩ := mi.node G.n0 G.per (by omega) (by omega)
  have f0 := mi.f0 (by omega) (by omega)
  have e0 : ldq L (g.ma (M k).v) = L0.getD (g.ma (M k).v).toNat 0 := by rw [ld_in ⟨(G.m _ v1 v2).1, (G.m _ v1 v2).2.1⟩]; exact h.ma _ v1 v2
  by_cases h1 : L0.getD (g.ma (M k).v).toNat 0 < cy
  · have es : wstp g L (M k) = (L, { wq (M k) with pc := 5 }) := by
      unfold wstp; rw [if_neg (by omega), if_neg (by omega), if_neg (by omega), if_pos hp, e0, mi.cyc, if_pos h1]
    rw [es]
    refine h.stepTurn hk ⟨mi.cyc, by simp, fun e => by simp at e, fun _ => mi.pt (by omega), fun _ _ => mi.p6 (by omega) (by omega), fun _ _ => f0, fun e => by simp at e, fun _ => ⟨mi.p4 hp, h1⟩, fun e => by simp at e, fun e => by simp at e⟩ ⟨fun _ => by simp, fun _ => by omega⟩ (fun _ => rfl) ⟨rfl, rfl⟩ (fun _ => ?_) (fun e => by omega)
    have e3 : wdue g Ts (M k) = 6 * ((M k).last - (M k).v) + 6 := by unfold wdue; rw [if_neg (by omega), if_pos hp]
    have e4 : wdue g Ts { wq (M k) with pc := 5 } = 6 * ((M k).last - (M k).v) + 5 := by simp [wdue, wq]
    exact (show wdue g Ts { wq (M k) with pc := 5 } + 1 ≤ wdue g Ts (M k) by rw [e4, e3]; omega)
  · have es : wstp g L (M k) = (L, wgo (wq (M k)) ((M k).v + 1)) := by
      unfold wstp; rw [if_neg (by omega), if_neg (by omega), if_neg (by omega), if_pos hp, e0, mi.cyc, if_neg h1]
    rw [es]
    exact h.skip hk (.inr hp) fun e => h1 e.2
theorem item_v (v : Int) (h0 : 1 ≤ v) (h1 : v ≤ 1000) : itemOf v = v := by unfold itemOf; rw [if_neg (by omega)]
/-- A node is freed. -/
theorem SI.step5 (h : SI n g cy L0 L T F PD Ts Qs M) (hk : k < 3) (hp : (M k).pc = 5) : Stepped n g cy L0 L T F PD Ts M k (wstp g L (M k)).1 (wstp g L (M k)).2 := by
  have G := h.gw
  have mi := h.mi k hk
  have h9 := G.n9
  obtain ⟨v1, v2, vin⟩ := mi.node G.n0 G.per (by omega) (by omega)
  have f0 := mi.f0 (by omega) (by omega)
  have hg := mi.p5 hp
  obtain ⟨hpt, hpd, hlast, hvr, hu⟩ := mi.pt (by omega)
  have gs := G.s _ v1 v2
  obtain ⟨m', hm'⟩ : ∃ m', m' = { M k with ek := 5, ea := (M k).v, x := mPush (g.hk (g.cl (M k).v)) (M k).v, pc := 6 } := ⟨_, rfl⟩
  have es : wstp g L (M k) = (ptq L (g.st (M k).v) 0, m') := by
    unfold wstp; rw [if_neg (by omega), if_neg (by omega), if_neg (by omega), if_neg (by omega), if_pos hp, hm']
  rw [es]
  obtain ⟨F', hF'⟩ : ∃ F', F' = iset F (M k).v 1 := ⟨_, rfl⟩
  have e1 : F' (M k).v = 1 := by rw [hF']; exact iset_same ..
  have e2 : ∀ u, u ≠ (M k).v → F' u = F u := fun u hu => by rw [hF']; exact iset_other _ hu
  have hle : wleft n F' = wleft n F := wleft_same fun u => by
    by_cases e : u = (M k).v
    · subst e; omega
    · rw [e2 u e]
  have w1 : ∀ d, d < 5 → (g.hk d).head ≠ g.st (M k).v := fun d hd => ((G.h d hd).2.2 _ v1 v2).1
  have w2 : ∀ (d : Nat) (x : Int), d < 5 → 1 ≤ x → x ≤ n → atOf (g.hk d).links x ≠ g.st (M k).v := fun d x hd a b => ((G.l d x hd a b).2.2 _ v1 v2).1
  have hmi : ∀ i, i < 3 → i ≠ k → MI n g cy L0 (ptq L (g.st (M k).v) 0) T F' PD Ts Qs (M i) := fun i hi hne =>
    (h.mi i hi).mono (Int.le_refl _) (fun u a2 _ _ hu => e2 u (h.oth hk (by omega) (by omega) hi hne a2 hu)) (fun _ => rfl) (fun a b => (h.mi i hi).node G.n0 G.per a b) fun e P => P.mono (Int.le_refl _) (fun _ => rfl) fun _ _ => by
      obtain ⟨u1, u2, _⟩ := (h.mi i hi).node G.n0 G.per (by omega) (by omega)
      obtain ⟨f1, f2, _, _, ei, _⟩ := (h.mi i hi).x6 e
      rw [ei]
      have hc := G.cl _ u1 u2
      exact ⟨fun hq => by have := ((h.q _ hc _).1 hq).2.1; omega, lkw_word G hc u1 u2 w2⟩
  have nq : ∀ c, c < 5 → (M k).v ∉ Qs c := fun c hc hq => by have := ((h.q c hc _).1 hq).2.1; omega
  refine ⟨T, F', PD, Ts, Qs, ⟨by rw [pt_len]; exact G, by rw [pt_len]; exact h.len, by rw [pt_other G.sw.1 gs.2.2.1.symm]; exact h.sw, h.t, fun v a b => ?_, fun v a b c => ?_, fun v a b c d => ?_, fun v a b => ?_, fun c hc => ⟨stk_word G hc (h.sk c hc).1 w1 w2, (h.sk c hc).2⟩, fun c hc v => ?_, fun j hj => ?_, fun j v a b c d => ?_, fun j a2 b2 c => ?_, fun i hi => ?_, fun i j hi hj hne a2 b2 => ?_, ?_⟩, ?_, .inl rfl, fun _ => ?_, by omega, fun i _ _ => by omega, fun e => by omega, fun _ _ => .inl (by rw [hm']; simp)⟩
  · rw [pt_other (G.m v a b).1 (fun e => G.sm _ _ v1 v2 a b e.symm)]; exact h.ma v a b
  · by_cases e : v = (M k).v
    · subst e
      rcases c with c | c
      · omega
      · exact absurd hg c
    · rw [e2 v e] at c
      rw [pt_other (G.s v a b).1 (fun e3 => e (G.si _ _ a b v1 v2 e3))]; exact h.st0 v a b c
  · by_cases e : v = (M k).v
    · subst e; exact pt_same ⟨gs.1, gs.2.1⟩
    · rw [e2 v e] at c
      rw [pt_other (G.s v a b).1 (fun e3 => e (G.si _ _ a b v1 v2 e3))]; exact h.st1 v a b c d
  · by_cases e : v = (M k).v
    · subst e; omega
    · rw [e2 v e]; exact h.f v a b
  · by_cases e : v = (M k).v
    · subst e
      constructor
      · intro hq; exact absurd hq (nq c hc)
      · intro hq; omega
    · rw [e2 v e]; exact h.q c hc v
  · obtain ⟨x, y⟩ := h.pd j hj
    refine ⟨x, fun v a b c => ?_⟩
    by_cases e : v = (M k).v
    · subst e; have := y _ a b c; omega
    · rw [e2 v e]; exact y v a b c
  · by_cases e : v = (M k).v
    · subst e
      have : (M k).part = j := by
        rcases Int.lt_trichotomy (M k).part j with x | x | x
        · exact absurd rfl (pt_ne G.per vin c (by omega))
        · exact x
        · exact absurd rfl (pt_ne G.per vin c (by omega))
      omega
    · rw [e2 v e]; exact h.un j v a b c d
  · obtain ⟨i, hi, p, ep⟩ := h.ow j a2 b2 c
    refine ⟨i, hi, ?_⟩
    by_cases e : i = k
    · subst e; rw [fset_same, hm']; exact ⟨by simp, ep⟩
    · rw [fset_other _ e]; exact ⟨p, ep⟩
  · by_cases e : i = k
    · subst e; rw [fset_same]
      have hc := G.cl _ v1 v2
      rw [hm']
      refine ⟨mi.cyc, by simp, fun e => by simp at e, fun _ => ⟨hpt, hpd, hlast, hvr, fun u u1 u2 u3 => ⟨fun hlt => ?_, fun hlt => ?_⟩⟩, fun _ _ => mi.p6 (by omega) (by omega), fun _ e => by simp at e, fun e => by simp at e, fun e => by simp at e, fun _ => ⟨e1, hg, ?_, rfl, item_v _ v1 (by omega), by simp [mPush]⟩, fun e => by simp at e⟩
      · dsimp only at hlt; rw [e2 u (by omega)]; exact (hu u u1 u2 u3).1 hlt
      · dsimp only at hlt; rw [e2 u (by omega)]; exact (hu u u1 u2 u3).2 hlt
      · dsimp only
        unfold mPush
        rw [item_v _ v1 (by omega)]
        exact .push1 _ _ _ _ v1 v2 (nq _ hc)
    · rw [fset_other _ e]; exact hmi i hi e
  · have key : ∀ i, 3 ≤ (fset M k m' i).pc → 3 ≤ (M i).pc ∧ (fset M k m' i).part = (M i).part := fun i hi => by
      by_cases e : i = k
      · subst e; rw [fset_same, hm']; exact ⟨by omega, rfl⟩
      · rw [fset_other _ e] at hi ⊢; exact ⟨hi, rfl⟩
    obtain ⟨x1, x2⟩ := key i a2
    obtain ⟨y1, y2⟩ := key j b2
    rw [x2, y2]; exact h.ds i j hi hj hne x1 y1
  · rw [pt_other G.dn.1 gs.2.2.2.symm]; exact h.dn
  · rw [hm']; exact .free _ ⟨v1, v2⟩ f0 hg hF' rfl
  · have e3 : wdue g Ts (M k) = 6 * ((M k).last - (M k).v) + 5 := by unfold wdue; rw [if_neg (by omega), if_neg (by omega), if_pos hp]
    have e4 : wdue g Ts m' = 6 * ((M k).last - (M k).v) + 3 + 1 := by rw [hm']; simp [wdue, due, mPush]
    dsimp only
    omega
theorem nd_len : ∀ (n : Nat) {Q : List Int}, Q.Nodup → (∀ q ∈ Q, 1 ≤ q ∧ q ≤ (n : Int)) → Q.length ≤ n
  | 0, Q, _, h => by
    cases Q with
    | nil => simp
    | cons q Q => have := h q (by simp); omega
  | n + 1, Q, hn, h => by
    have hne := hn.erase ((n : Int) + 1)
    have := nd_len n hne fun q hq => by
      have h1 := h q (List.mem_of_mem_erase hq)
      have h2 : q ≠ (n : Int) + 1 := fun e => by subst e; exact hn.not_mem_erase hq
      omega
    have hl : Q.length ≤ (Q.erase ((n : Int) + 1)).length + 1 := by rw [List.length_erase]; split <;> omega
    omega
theorem cnt_neg (p : Nat → Bool) : ∀ N : Nat, (List.range N).countP p + (List.range N).countP (fun j => !p j) = N
  | 0 => by simp
  | N + 1 => by
    have := cnt_neg p N
    rw [List.range_succ, List.countP_append, List.countP_append]
    cases h : p N <;> simp [h] <;> omega
/-- A step of those that put a node to the free ones. -/
theorem SI.step6 (h : SI n g cy L0 L T F PD Ts Qs M) (hk : k < 3) (hp : (M k).pc = 6) : Stepped n g cy L0 L T F PD Ts M k (wstp g L (M k)).1 (wstp g L (M k)).2 := by
  have G := h.gw
  have mi := h.mi k hk
  have h9 := G.n9
  have a : 3 ≤ (M k).pc := by omega
  have b : (M k).pc ≤ 6 := by omega
  obtain ⟨v1, v2, vin⟩ := mi.node G.n0 G.per a b
  have h6 := mi.p6 a b
  obtain ⟨f1, hg, P, xk, xi, xp⟩ := mi.x6 hp
  obtain ⟨hpt, hpd, hlast, hvr, hu⟩ := mi.pt a
  have hc := G.cl _ v1 v2
  obtain ⟨H, hTl⟩ := h.sk _ hc
  have hql : (Qs (g.cl (M k).v)).length ≤ n := nd_len n H.nd H.rng
  obtain ⟨T', Q', H', P', hT, ev, hkd, hTQ, hlen, hfr, hit, hdue⟩ := s_step H P xp (by omega)
  have es : wstp g L (M k) = ((sstp L (M k).x).1, if (sstp L (M k).x).2.pc = 0 then wgo { wq (M k) with x := (sstp L (M k).x).2 } ((M k).v + 1) else { wq (M k) with x := (sstp L (M k).x).2 }) := by
    unfold wstp; rw [if_neg (by omega), if_neg (by omega), if_neg (by omega), if_neg (by omega), if_neg (by omega), if_pos hp]
  rw [es]
  have hit := hit xk
  generalize sstp L (M k).x = z at H' P' ev hkd hlen hfr hit hdue ⊢
  obtain ⟨L', x'⟩ := z
  dsimp only at H' P' ev hkd hlen hfr hit hdue ⊢
  rw [xi] at hit hfr
  -- which words stay
  have hfr' : ∀ q : Int, 0 ≤ q → q ≠ (g.hk (g.cl (M k).v)).head → q ≠ atOf (g.hk (g.cl (M k).v)).links (M k).v → L'.getD q.toNat 0 = L.getD q.toNat 0 := fun q h0 h1 h2 => by
    rcases hfr q h0 with e | e | e
    · exact e
    · exact absurd e h1
    · exact absurd e.2 h2
  have lkv : ∀ (d : Nat) (u : Int), d < 5 → 1 ≤ u → u ≤ n → u ≠ (M k).v → lkw (g.hk d) L' u = lkw (g.hk d) L u := fun d u hd u1 u2 hne => by
    refine hfr' _ ((G.k d hd).lk u u1 u2).1 (G.hl d _ u hd hc u1 u2) fun e => hne ?_
    rw [G.kl d _ hd hc] at e
    exact (G.k _ hc).inj u _ u1 u2 v1 v2 e
  obtain ⟨Ts', hTs⟩ : ∃ Ts', Ts' = fset Ts (g.cl (M k).v) T' := ⟨_, rfl⟩
  obtain ⟨Qs', hQs⟩ : ∃ Qs', Qs' = fset Qs (g.cl (M k).v) Q' := ⟨_, rfl⟩
  have tc : Ts' (g.cl (M k).v) = T' ∧ Qs' (g.cl (M k).v) = Q' := by rw [hTs, hQs]; exact ⟨fset_same .., fset_same ..⟩
  have to : ∀ d, d ≠ g.cl (M k).v → Ts' d = Ts d ∧ Qs' d = Qs d := fun d hd => by rw [hTs, hQs]; exact ⟨fset_other _ hd, fset_other _ hd⟩
  have hxk : x'.kind = 1 := by rw [hkd]; exact xk
  -- other words
  have sw' : L'.getD g.sw.toNat 0 = L.getD g.sw.toNat 0 := hfr' _ G.sw.1 (G.h _ hc).1.symm (G.l _ _ hc v1 v2).1.symm
  have dn' : L'.getD g.dn.toNat 0 = L.getD g.dn.toNat 0 := hfr' _ G.dn.1 (G.h _ hc).2.1.symm (G.l _ _ hc v1 v2).2.1.symm
  have st' : ∀ u : Int, 1 ≤ u → u ≤ n → L'.getD (g.st u).toNat 0 = L.getD (g.st u).toNat 0 := fun u a b => hfr' _ (G.s u a b).1 ((G.h _ hc).2.2 u a b).1.symm ((G.l _ _ hc v1 v2).2.2 u a b).1.symm
  have ma' : ∀ u : Int, 1 ≤ u → u ≤ n → L'.getD (g.ma u).toNat 0 = L.getD (g.ma u).toNat 0 := fun u a b => hfr' _ (G.m u a b).1 ((G.h _ hc).2.2 u a b).2.symm ((G.l _ _ hc v1 v2).2.2 u a b).2.symm
  -- other stacks
  have sk' : ∀ d, d < 5 → d ≠ g.cl (M k).v → Stk n (g.hk d) L' (Ts' d) (Qs' d) ∧ Ts' d = (Qs' d).length := fun d hd hne => by
    obtain ⟨e1, e2⟩ := to d hne
    rw [e1, e2]
    obtain ⟨x, y⟩ := h.sk d hd
    refine ⟨x.same hlen (hfr' _ (G.k d hd).hd.1 (fun e => hne (G.kh d _ hd hc e)) (fun e => G.hl _ d _ hc hd v1 v2 e.symm)) fun q hq => ?_, y⟩
    have hr := x.rng q hq
    exact lkv d q hd hr.1 hr.2 fun e => by have := ((h.q d hd _).1 hq).2.1; rw [e] at this; omega
  -- other machines' pushes
  have sp' : ∀ i, i < 3 → i ≠ k → (M i).pc = 6 → Sp n (g.hk (g.cl (M i).v)) L (Ts (g.cl (M i).v)) (Qs (g.cl (M i).v)) (M i).x → Sp n (g.hk (g.cl (M i).v)) L' (Ts' (g.cl (M i).v)) (Qs' (g.cl (M i).v)) (M i).x := fun i hi hne e6 PP => by
    obtain ⟨u1, u2, uin⟩ := (h.mi i hi).node G.n0 G.per (by omega) (by omega)
    obtain ⟨g1, g2, _, ik, ii, _⟩ := (h.mi i hi).x6 e6
    have une := h.oth hk a b hi hne (by omega) uin
    have hcu := G.cl _ u1 u2
    by_cases ec : g.cl (M i).v = g.cl (M k).v
    · rw [ec] at PP ⊢
      rw [tc.1, tc.2]
      refine PP.mono hT hTQ fun _ _ => ?_
      rw [ii]
      refine ⟨fun hq => ?_, lkv _ _ hc u1 u2 une⟩
      have nq : (M i).v ∉ Qs (g.cl (M k).v) := fun hq => by have := ((h.q _ hc _).1 hq).2.1; omega
      cases ev with
      | on _ _ hQ => rw [hQ] at hq; exact nq hq
      | put _ _ _ hQ hi2 =>
        rw [hQ] at hq
        rcases List.mem_cons.1 hq with e | e
        · rw [hi2, xi] at e; exact une e
        · exact nq e
      | took _ hk2 => rw [xk] at hk2; omega
      | none _ hk2 => rw [xk] at hk2; omega
    · obtain ⟨e1, e2⟩ := to _ ec
      rw [e1, e2]
      refine PP.mono (Int.le_refl _) (fun _ => rfl) fun _ _ => ?_
      rw [ii]
      exact ⟨fun hq => by have := ((h.q _ hcu _).1 hq).2.1; omega, lkv _ _ hcu u1 u2 une⟩
  -- how far others are set back
  have du' : ∀ i, i < 3 → i ≠ k → wdue g Ts' (M i) ≤ wdue g Ts (M i) + (if T' = Ts (g.cl (M k).v) then 0 else 3) := fun i hi hne => by
    by_cases e6 : (M i).pc = 6
    · obtain ⟨_, _, PP, _⟩ := (h.mi i hi).x6 e6
      have hpc := PP.pc_le
      have e1 : ∀ t : Nat → Int, wdue g t (M i) = 6 * ((M i).last - (M i).v) + due (t (g.cl (M i).v)) (M i).x + 1 := fun t => by unfold wdue; rw [if_neg (by omega), if_neg (by omega), if_neg (by omega), if_pos e6]
      rw [e1, e1]
      by_cases ec : g.cl (M i).v = g.cl (M k).v
      · rw [ec, tc.1]
        have := due_mono (Ts (g.cl (M k).v)) T' (M i).x hpc
        omega
      · rw [(to _ ec).1]; split <;> omega
    · have : wdue g Ts' (M i) = wdue g Ts (M i) := by unfold wdue; simp only [e6, if_false]
      rw [this]; split <;> omega
  have ek3 : wdue g Ts (M k) = 6 * ((M k).last - (M k).v) + due (Ts (g.cl (M k).v)) (M k).x + 1 := by unfold wdue; rw [if_neg (by omega), if_neg (by omega), if_neg (by omega), if_pos hp]
  by_cases hx0 : x'.pc = 0
  · -- it is put
    rw [if_pos hx0]
    obtain ⟨hT1, hQ1⟩ : T' = Ts (g.cl (M k).v) + 1 ∧ Q' = (M k).v :: Qs (g.cl (M k).v) := by
      cases ev with
      | on h => exact absurd hx0 h
      | put _ _ t q i => rw [i, xi] at q; exact ⟨t, q⟩
      | took _ hk2 => rw [xk] at hk2; omega
      | none _ hk2 => rw [xk] at hk2; omega
    obtain ⟨F', hF'⟩ : ∃ F', F' = iset F (M k).v 2 := ⟨_, rfl⟩
    have e1 : F' (M k).v = 2 := by rw [hF']; exact iset_same ..
    have e2 : ∀ u, u ≠ (M k).v → F' u = F u := fun u hu => by rw [hF']; exact iset_other _ hu
    have hle := wleft_done v1 v2 (show F (M k).v ≠ 2 by omega) e1 e2
    obtain ⟨m', hm'⟩ : ∃ m', m' = wgo { wq (M k) with x := x' } ((M k).v + 1) := ⟨_, rfl⟩
    rw [← hm']
    have hpc : 3 ≤ m'.pc := by rw [hm']; unfold wgo; dsimp only; split <;> omega
    have hpart : m'.part = (M k).part := by rw [hm']; rfl
    have hev : m'.ek = 0 ∧ m'.ea = 0 := by rw [hm']; exact ⟨rfl, rfl⟩
    have hdu : wdue g Ts' m' + 1 ≤ wdue g Ts (M k) := by
      have := wdue_go (g := g) (Ts := Ts') (m := M k) (m' := { wq (M k) with x := x' }) h6 rfl
      have : due T' x' = 0 := by unfold due; rw [if_pos hx0]
      rw [hm', ek3]; omega
    have hTne : ¬ T' = Ts (g.cl (M k).v) := by omega
    have hmi : ∀ i, i < 3 → i ≠ k → MI n g cy L0 L' T F' PD Ts' Qs' (M i) := fun i hi hne =>
      (h.mi i hi).mono (Int.le_refl _) (fun u a2 _ _ hu => e2 u (h.oth hk a b hi hne a2 hu)) (fun _ => rfl) (fun a b => (h.mi i hi).node G.n0 G.per a b) (sp' i hi hne)
    refine ⟨T, F', PD, Ts', Qs', ⟨by rw [hlen]; exact G, by rw [hlen]; exact h.len, by rw [sw']; exact h.sw, h.t, fun v a b => by rw [ma' v a b]; exact h.ma v a b, fun v a b c => ?_, fun v a b c d => ?_, fun v a b => ?_, fun c hc' => ?_, fun c hc' v => ?_, fun j hj => ?_, fun j v a b c d => ?_, fun j a2 b2 c => ?_, fun i hi => ?_, fun i j hi hj hne a2 b2 => ?_, by rw [dn']; exact h.dn⟩, ?_, .inl rfl, fun _ => by omega, by omega, fun i hi hne => ?_, fun e => by omega, fun _ _ => .inl hpc⟩
    · rw [st' v a b]
      by_cases e : v = (M k).v
      · subst e
        rcases c with c | c
        · omega
        · exact absurd hg c
      · rw [e2 v e] at c; exact h.st0 v a b c
    · rw [st' v a b]
      by_cases e : v = (M k).v
      · subst e; exact h.st1 _ a b (by omega) d
      · rw [e2 v e] at c; exact h.st1 v a b c d
    · by_cases e : v = (M k).v
      · subst e; omega
      · rw [e2 v e]; exact h.f v a b
    · by_cases e : c = g.cl (M k).v
      · subst e
        rw [tc.1, tc.2]
        exact ⟨H', by rw [hT1, hQ1, hTl]; simp⟩
      · exact sk' c hc' e
    · by_cases ec : c = g.cl (M k).v
      · subst ec
        rw [tc.2, hQ1]
        by_cases e : v = (M k).v
        · subst e
          exact ⟨fun _ => ⟨⟨v1, v2⟩, e1, hg, rfl⟩, fun _ => by simp⟩
        · rw [e2 v e, List.mem_cons]
          constructor
          · rintro (x | x)
            · exact absurd x e
            · exact (h.q _ hc' v).1 x
          · intro x; exact .inr ((h.q _ hc' v).2 x)
      · rw [(to c ec).2]
        by_cases e : v = (M k).v
        · subst e
          constructor
          · intro hq; have := ((h.q c hc' _).1 hq).2.2.2; exact absurd this.symm ec
          · intro hq; exact absurd hq.2.2.2.symm ec
        · rw [e2 v e]; exact h.q c hc' v
    · obtain ⟨x, y⟩ := h.pd j hj
      refine ⟨x, fun v a b c => ?_⟩
      by_cases e : v = (M k).v
      · subst e; exact e1
      · rw [e2 v e]; exact y v a b c
    · by_cases e : v = (M k).v
      · subst e
        have : (M k).part = j := by
          rcases Int.lt_trichotomy (M k).part j with x | x | x
          · exact absurd rfl (pt_ne G.per vin c (by omega))
          · exact x
          · exact absurd rfl (pt_ne G.per vin c (by omega))
        omega
      · rw [e2 v e]; exact h.un j v a b c d
    · obtain ⟨i, hi, p, ep⟩ := h.ow j a2 b2 c
      refine ⟨i, hi, ?_⟩
      by_cases e : i = k
      · subst e; rw [fset_same]; exact ⟨hpc, by rw [hpart]; exact ep⟩
      · rw [fset_other _ e]; exact ⟨p, ep⟩
    · by_cases e : i = k
      · subst e; rw [fset_same, hm']
        exact mi.next G.n0 G.per a b (Int.le_refl _) rfl e1 e2 ⟨rfl, rfl, rfl⟩
      · rw [fset_other _ e]; exact hmi i hi e
    · have key : ∀ i, 3 ≤ (fset M k m' i).pc → 3 ≤ (M i).pc ∧ (fset M k m' i).part = (M i).part := fun i hi => by
        by_cases e : i = k
        · subst e; rw [fset_same]; exact ⟨a, hpart⟩
        · rw [fset_other _ e] at hi ⊢; exact ⟨hi, rfl⟩
      obtain ⟨x1, x2⟩ := key i a2
      obtain ⟨y1, y2⟩ := key j b2
      rw [x2, y2]; exact h.ds i j hi hj hne x1 y1
    · rw [hev.1, hev.2]
      refine .none rfl fun v a b c => ?_
      by_cases e : v = (M k).v
      · rw [e]; omega
      · rw [e2 v e]
    · have := du' i hi hne
      rw [if_neg hTne] at this
      omega
  · -- it goes on
    rw [if_neg hx0]
    obtain ⟨hT1, hQ1⟩ : T' = Ts (g.cl (M k).v) ∧ Q' = Qs (g.cl (M k).v) := by
      cases ev with
      | on _ t q => exact ⟨t, q⟩
      | put h => exact absurd h hx0
      | took h => exact absurd h hx0
      | none h => exact absurd h hx0
    obtain ⟨m', hm'⟩ : ∃ m', m' = { wq (M k) with x := x' } := ⟨_, rfl⟩
    rw [← hm']
    have hpc : m'.pc = 6 := by rw [hm']; exact hp
    have hpart : m'.part = (M k).part := by rw [hm']; rfl
    have hmi : ∀ i, i < 3 → i ≠ k → MI n g cy L0 L' T F PD Ts' Qs' (M i) := fun i hi hne =>
      (h.mi i hi).mono (Int.le_refl _) (fun u a2 _ _ hu => rfl) (fun _ => rfl) (fun a b => (h.mi i hi).node G.n0 G.per a b) (sp' i hi hne)
    refine ⟨T, F, PD, Ts', Qs', ⟨by rw [hlen]; exact G, by rw [hlen]; exact h.len, by rw [sw']; exact h.sw, h.t, fun v a b => by rw [ma' v a b]; exact h.ma v a b, fun v a b c => by rw [st' v a b]; exact h.st0 v a b c, fun v a b c d => by rw [st' v a b]; exact h.st1 v a b c d, h.f, fun c hc' => ?_, fun c hc' v => ?_, h.pd, h.un, fun j a2 b2 c => ?_, fun i hi => ?_, fun i j hi hj hne a2 b2 => ?_, by rw [dn']; exact h.dn⟩, ?_, .inl rfl, fun _ => ?_, by omega, fun i hi hne => ?_, fun e => by omega, fun _ _ => .inl (by omega)⟩
    · by_cases e : c = g.cl (M k).v
      · subst e
        rw [tc.1, tc.2]
        exact ⟨H', by rw [hT1, hQ1]; exact hTl⟩
      · exact sk' c hc' e
    · by_cases e : c = g.cl (M k).v
      · subst e; rw [tc.2, hQ1]; exact h.q _ hc' v
      · rw [(to c e).2]; exact h.q c hc' v
    · obtain ⟨i, hi, p, ep⟩ := h.ow j a2 b2 c
      refine ⟨i, hi, ?_⟩
      by_cases e : i = k
      · subst e; rw [fset_same]; exact ⟨by omega, by rw [hpart]; exact ep⟩
      · rw [fset_other _ e]; exact ⟨p, ep⟩
    · by_cases e : i = k
      · subst e; rw [fset_same, hm']
        refine ⟨mi.cyc, mi.pc, fun e => by have e : (M i).pc = 2 := e; omega, fun _ => mi.pt a, fun _ _ => h6, fun _ e => by have e : (M i).pc ≤ 5 := e; omega, fun e => by have e : (M i).pc = 4 := e; omega, fun e => by have e : (M i).pc = 5 := e; omega, fun _ => ⟨f1, hg, ?_, hxk, hit, hx0⟩, fun e => by have e : (M i).pc = 7 := e; omega⟩
        show Sp n (g.hk (g.cl (M i).v)) L' (Ts' (g.cl (M i).v)) (Qs' (g.cl (M i).v)) x'
        rw [tc.1, tc.2]; exact P'
      · rw [fset_other _ e]; exact hmi i hi e
    · have key : ∀ i, 3 ≤ (fset M k m' i).pc → 3 ≤ (M i).pc ∧ (fset M k m' i).part = (M i).part := fun i hi => by
        by_cases e : i = k
        · subst e; rw [fset_same]; exact ⟨a, hpart⟩
        · rw [fset_other _ e] at hi ⊢; exact ⟨hi, rfl⟩
      obtain ⟨x1, x2⟩ := key i a2
      obtain ⟨y1, y2⟩ := key j b2
      rw [x2, y2]; exact h.ds i j hi hj hne x1 y1
    · rw [hm']; exact .none rfl fun v a b c => Iff.rfl
    · have e4 : wdue g Ts' m' = 6 * ((M k).last - (M k).v) + due T' x' + 1 := by
        unfold wdue; rw [if_neg (by omega), if_neg (by omega), if_neg (by omega), if_pos hpc, hm']
        show 6 * ((M k).last - (M k).v) + due (Ts' (g.cl (M k).v)) x' + 1 = _
        rw [tc.1]
      rw [e4, ek3]; omega
    · have := du' i hi hne
      rw [if_pos hT1] at this
      omega
/-- A part is done. -/
theorem SI.step7 (h : SI n g cy L0 L T F PD Ts Qs M) (hk : k < 3) (hp : (M k).pc = 7) : Stepped n g cy L0 L T F PD Ts M k (wstp g L (M k)).1 (wstp g L (M k)).2 := by
  have G := h.gw
  have mi := h.mi k hk
  obtain ⟨hpt, hpd, hlast, hvr, hu⟩ := mi.pt (by omega)
  have p7 := mi.p7 hp
  have hT := h.t
  obtain ⟨m', hm'⟩ : ∃ m', m' = { M k with ek := 6, ea := (M k).part, pc := 0 } := ⟨_, rfl⟩
  have e0 : ldq L g.dn = L.getD g.dn.toNat 0 := ld_in G.dn
  have es : wstp g L (M k) = (ptq L g.dn (L.getD g.dn.toNat 0 + 1), m') := by
    have hdn := h.dn
    have hP := parts_pos G
    have hle := List.countP_le_length (p := fun (j : Nat) => PD (j : Int)) (l := List.range g.parts.toNat)
    have h9 := G.n9
    rw [List.length_range] at hle
    have ew : (L.getD g.dn.toNat 0 + 1) % 18446744073709551616 = L.getD g.dn.toNat 0 + 1 := Int.emod_eq_of_lt (by omega) (by omega)
    unfold wstp; rw [if_neg (by omega), if_neg (by omega), if_neg (by omega), if_neg (by omega), if_neg (by omega), if_neg (by omega), if_pos hp, e0, hm', ew]
  rw [es]
  obtain ⟨PD', hPD⟩ : ∃ PD', PD' = iset PD (M k).part true := ⟨_, rfl⟩
  have e1 : PD' (M k).part = true := by rw [hPD]; exact iset_same ..
  have e2 : ∀ j, j ≠ (M k).part → PD' j = PD j := fun j hj => by rw [hPD]; exact iset_other _ hj
  have w1 : ∀ d, d < 5 → (g.hk d).head ≠ g.dn := fun d hd => (G.h d hd).2.1
  have w2 : ∀ (d : Nat) (x : Int), d < 5 → 1 ≤ x → x ≤ n → atOf (g.hk d).links x ≠ g.dn := fun d x hd a b => (G.l d x hd a b).2.1
  have hcnt := cnt_upd (fun (j : Nat) => !PD (j : Int)) (fun (j : Nat) => !PD' (j : Int)) (M k).part.toNat (by simp [show (((M k).part.toNat : Nat) : Int) = (M k).part by omega, hpd]) (by simp [show (((M k).part.toNat : Nat) : Int) = (M k).part by omega, e1]) (fun j hj => by show (!PD' (j : Int)) = !PD (j : Int); rw [e2 _ (by omega)]) g.parts.toNat (by omega)
  have hmi : ∀ i, i < 3 → i ≠ k → MI n g cy L0 (ptq L g.dn (L.getD g.dn.toNat 0 + 1)) T F PD' Ts Qs (M i) := fun i hi hne =>
    (h.mi i hi).mono (Int.le_refl _) (fun u _ _ _ _ => rfl) (fun ai => e2 _ (h.ds i k hi hk hne ai (by omega))) (fun a b => (h.mi i hi).node G.n0 G.per a b) fun e P => P.mono (Int.le_refl _) (fun _ => rfl) fun _ _ => by
      obtain ⟨u1, u2, _⟩ := (h.mi i hi).node G.n0 G.per (by omega) (by omega)
      obtain ⟨f1, f2, _, _, ei, _⟩ := (h.mi i hi).x6 e
      rw [ei]
      have hc := G.cl _ u1 u2
      exact ⟨fun hq => by have := ((h.q _ hc _).1 hq).2.1; omega, lkw_word G hc u1 u2 w2⟩
  refine ⟨T, F, PD', Ts, Qs, ⟨by rw [pt_len]; exact G, by rw [pt_len]; exact h.len, by rw [pt_other G.sw.1 G.sd]; exact h.sw, hT, fun v a b => by rw [pt_other (G.m v a b).1 (G.m v a b).2.2.2]; exact h.ma v a b, fun v a b c => by rw [pt_other (G.s v a b).1 (G.s v a b).2.2.2]; exact h.st0 v a b c, fun v a b c d => by rw [pt_other (G.s v a b).1 (G.s v a b).2.2.2]; exact h.st1 v a b c d, h.f, fun c hc => ⟨stk_word G hc (h.sk c hc).1 w1 w2, (h.sk c hc).2⟩, h.q, fun j hj => ?_, h.un, fun j a2 b2 c => ?_, fun i hi => ?_, fun i j hi hj hne a2 b2 => ?_, ?_⟩, ?_, .inl rfl, fun _ => ?_, Int.le_refl _, fun i _ _ => Int.le_refl _, fun e => by omega, fun _ _ => .inr (by rw [hm'])⟩
  · by_cases e : j = (M k).part
    · subst e
      refine ⟨hpt, fun v a b c => (hu v a b c).1 ?_⟩
      have h2 := c.2
      have hn := G.n0
      have hl : v ≤ (M k).last := by rw [hlast]; unfold wmin; split <;> omega
      omega
    · rw [e2 j e] at hj; exact h.pd j hj
  · by_cases e : j = (M k).part
    · subst e; rw [e1] at c; cases c
    · rw [e2 j e] at c
      obtain ⟨i, hi, p, ep⟩ := h.ow j a2 b2 c
      refine ⟨i, hi, ?_⟩
      rw [fset_other _ (fun e3 => by subst e3; exact e ep.symm)]; exact ⟨p, ep⟩
  · by_cases e : i = k
    · subst e; rw [fset_same, hm']
      exact ⟨mi.cyc, by simp, fun e => by simp at e, fun e => by simp at e, fun e => by simp at e, fun e => by simp at e, fun e => by simp at e, fun e => by simp at e, fun e => by simp at e, fun e => by simp at e⟩
    · rw [fset_other _ e]; exact hmi i hi e
  · have key : ∀ i, 3 ≤ (fset M k m' i).pc → 3 ≤ (M i).pc ∧ fset M k m' i = M i := fun i hi => by
      by_cases e : i = k
      · subst e; rw [fset_same, hm'] at hi; simp at hi
      · rw [fset_other _ e] at hi ⊢; exact ⟨hi, rfl⟩
    obtain ⟨x1, x2⟩ := key i a2
    obtain ⟨y1, y2⟩ := key j b2
    rw [x2, y2]; exact h.ds i j hi hj hne x1 y1
  · rw [pt_same G.dn, h.dn]
    have a1 := cnt_neg (fun (j : Nat) => PD (j : Int)) g.parts.toNat
    have a2 := cnt_neg (fun (j : Nat) => PD' (j : Int)) g.parts.toNat
    omega
  · have hlt : (M k).part < g.parts := by omega
    rw [hm']; exact .part (M k).part ⟨hpt.1, hlt⟩ hpd hPD rfl
  · have e3 : wdue g Ts (M k) = 1 := by unfold wdue; rw [if_neg (by omega), if_neg (by omega), if_neg (by omega), if_neg (by omega), if_pos hp]
    have e4 : wdue g Ts m' = 0 := by rw [hm']; simp [wdue]
    dsimp only
    omega
/-- Any step. -/
theorem SI.step (h : SI n g cy L0 L T F PD Ts Qs M) (hk : k < 3) : Stepped n g cy L0 L T F PD Ts M k (wstp g L (M k)).1 (wstp g L (M k)).2 := by
  have hpc := (h.mi k hk).pc
  have : (M k).pc = 0 ∨ (M k).pc = 1 ∨ (M k).pc = 2 ∨ (M k).pc = 3 ∨ (M k).pc = 4 ∨ (M k).pc = 5 ∨ (M k).pc = 6 ∨ (M k).pc = 7 := by omega
  rcases this with e | e | e | e | e | e | e | e
  · exact h.step0 hk e
  · exact h.step1 hk e
  · exact h.step2 hk e
  · exact h.step3 hk e
  · exact h.step4 hk e
  · exact h.step5 hk e
  · exact h.step6 hk e
  · exact h.step7 hk e
end
end Go.Proofs.YtbpkcoemehmpbaaGreat
