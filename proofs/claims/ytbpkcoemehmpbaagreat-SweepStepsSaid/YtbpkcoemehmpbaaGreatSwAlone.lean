/- Parts that are swept by one alone, whatever the lists of free nodes are. -/
import Derived.Test.YtbpkcoemehmpbaaGreatSwPure
namespace Go.Proofs.YtbpkcoemehmpbaaGreat
set_option linter.unusedVariables false
set_option linter.unusedSimpArgs false

/-- A push that is alone. -/
def WXx (L : List Int) (k : Sk) (v : Int) (x : Sm) : Prop :=
  x.kind = 1 ∧ x.k = k ∧ x.item = v ∧ (x.pc = 1 ∨ (x.pc = 2 ∨ x.pc = 3) ∧ x.h = L.getD k.head.toNat 0)
/-- How one that is alone stands with part j; nodes that it came by aren't there without the mark. -/
structure WA (n : Nat) (g : Wg) (cy : Int) (L : List Int) (j : Int) (m : Wn) : Prop where
  gw : Gw n L.length g
  cyc : m.cy = cy
  pc : m.pc ≤ 7
  j0 : 0 ≤ j ∧ j < g.parts
  sw : L.getD g.sw.toNat 0 = cy % 4294967296 * 4294967296 + (if m.pc = 1 ∨ m.pc = 2 then j else j + 1)
  dn : L.getD g.dn.toNat 0 = (if m.pc = 0 then j + 1 else j)
  w2 : m.pc = 2 → m.w = cy % 4294967296 * 4294967296 + j
  pt : 3 ≤ m.pc → m.part = j ∧ m.last = wmin ((j + 1) * g.per) g.n ∧ (j * g.per + 1 ≤ m.v ∧ m.v ≤ m.last + 1)
  p6 : 3 ≤ m.pc → m.pc ≤ 6 → m.v ≤ m.last
  p4 : m.pc = 4 → L.getD (g.st m.v).toNat 0 = 1
  p5 : m.pc = 5 → Gone g L cy m.v
  x6 : m.pc = 6 → ¬ Gone g L cy m.v ∧ WXx L (g.hk (g.cl m.v)) m.v m.x
  p7 : m.pc = 7 → m.v = m.last + 1
  p0 : m.pc = 0 → m.part = j ∧ m.ek = 6 ∧ m.ea = j
  b : ∀ u : Int, 1 ≤ u → u ≤ n → (u ≤ j * g.per ∨ (3 ≤ m.pc ∧ u < m.v) ∨ (m.pc = 0 ∧ u ≤ (j + 1) * g.per)) → ¬ Gone g L cy u
/-- How many steps are left. -/
def wtime (n : Nat) (m : Wn) : Int :=
  if m.pc = 1 then 6 * n + 9 else if m.pc = 2 then 6 * n + 8 else if m.pc = 3 then 6 * (m.last - m.v) + 7 else if m.pc = 4 then 6 * (m.last - m.v) + 6 else if m.pc = 5 then 6 * (m.last - m.v) + 5
  else if m.pc = 6 then 6 * (m.last - m.v) + (4 - (m.x.pc : Int)) + 1 else if m.pc = 7 then 1 else 0
section
variable {n : Nat} {g : Wg} {cy j : Int} {L L' : List Int} {m m' : Wn}
theorem gone_same {u : Int} (h1 : L'.getD (g.st u).toNat 0 = L.getD (g.st u).toNat 0) (h2 : L'.getD (g.ma u).toNat 0 = L.getD (g.ma u).toNat 0) : Gone g L' cy u ↔ Gone g L cy u := by unfold Gone; rw [h1, h2]
theorem WA.begin (G : Gw n L.length g) (hj : 0 ≤ j ∧ j < g.parts) (hs : L.getD g.sw.toNat 0 = cy % 4294967296 * 4294967296 + j) (hd : L.getD g.dn.toNat 0 = j) (hb : ∀ u : Int, 1 ≤ u → u ≤ n → u ≤ j * g.per → ¬ Gone g L cy u) : WA n g cy L j (wNew cy) := by
  refine ⟨G, rfl, by simp [wNew], hj, by rw [hs]; simp [wNew], by rw [hd]; simp [wNew], fun e => by simp [wNew] at e, fun e => by simp [wNew] at e, fun e => by simp [wNew] at e, fun e => by simp [wNew] at e, fun e => by simp [wNew] at e, fun e => by simp [wNew] at e, fun e => by simp [wNew] at e, fun e => by simp [wNew] at e, fun u a b c => ?_⟩
  rcases c with c | c | c
  · exact hb u a b c
  · simp [wNew] at c
  · simp [wNew] at c
theorem WA.node (h : WA n g cy L j m) (a : 3 ≤ m.pc) (b : m.pc ≤ 6) : 1 ≤ m.v ∧ m.v ≤ n ∧ m.v ≤ (j + 1) * g.per := by
  have G := h.gw
  obtain ⟨_, hl, h1, h2⟩ := h.pt a
  have h3 := h.p6 a b
  have hn := G.n0
  have hj := h.j0
  have hper := G.per
  have h4 : 0 ≤ j * g.per := Int.mul_nonneg hj.1 (by omega)
  have h5 : m.last ≤ (j + 1) * g.per ∧ m.last ≤ g.n := by rw [hl]; unfold wmin; split <;> omega
  omega
/-- What comes of a step. -/
def WStepped (n : Nat) (g : Wg) (cy : Int) (L : List Int) (j : Int) (m : Wn) (L' : List Int) (m' : Wn) : Prop :=
  WA n g cy L' j m' ∧ wtime n m' + 1 ≤ wtime n m ∧ (m'.ek = 5 → Gone g L cy m.v ∧ 1 ≤ m.v ∧ m.v ≤ n) ∧ (∀ u : Int, 1 ≤ u → u ≤ n → ¬ Gone g L cy u → ¬ Gone g L' cy u) ∧ L'.length = L.length
/-- The next node. -/
theorem WA.next (h : WA n g cy L j m) (a : 3 ≤ m.pc) (b : m.pc ≤ 6) (hm : m'.cy = m.cy ∧ m'.part = m.part ∧ m'.last = m.last ∧ m'.ek = 0) (hl : L'.length = L.length)
    (hs : L'.getD g.sw.toNat 0 = L.getD g.sw.toNat 0) (hd : L'.getD g.dn.toNat 0 = L.getD g.dn.toNat 0) (hst : ∀ u : Int, 1 ≤ u → u ≤ n → L'.getD (g.st u).toNat 0 = L.getD (g.st u).toNat 0 ∧ L'.getD (g.ma u).toNat 0 = L.getD (g.ma u).toNat 0)
    (hg : ¬ Gone g L cy m.v) (ht : 6 * (m.last - m.v) + 2 ≤ wtime n m) : WStepped n g cy L j m L' (wgo m' (m.v + 1)) := by
  obtain ⟨e1, e2, e3, e4⟩ := hm
  have G := h.gw
  obtain ⟨p1, p2, p3, p4⟩ := h.pt a
  have h6 := h.p6 a b
  obtain ⟨v1, v2, v3⟩ := h.node a b
  have hpc : (wgo m' (m.v + 1)).pc = if m.v + 1 ≤ m.last then 3 else 7 := by unfold wgo; rw [e3]
  have h3 : 3 ≤ (wgo m' (m.v + 1)).pc := by rw [hpc]; split <;> omega
  have sw := h.sw
  have dn := h.dn
  rw [if_neg (by omega)] at sw dn
  have gone : ∀ u : Int, 1 ≤ u → u ≤ n → (Gone g L' cy u ↔ Gone g L cy u) := fun u a b => gone_same (hst u a b).1 (hst u a b).2
  refine ⟨⟨by rw [hl]; exact G, by show m'.cy = cy; rw [e1]; exact h.cyc, by rw [hpc]; split <;> omega, h.j0, by rw [hs, sw, if_neg (by omega)], by rw [hd, dn, if_neg (by omega)], fun e => by omega, fun _ => ?_, fun _ e => ?_, fun e => ?_, fun e => ?_, fun e => ?_, fun e => ?_, fun e => by omega, fun u u1 u2 c => ?_⟩, ?_, fun e => ?_, fun u u1 u2 c => by rw [gone u u1 u2]; exact c, hl⟩
  · show m'.part = j ∧ m'.last = wmin ((j + 1) * g.per) g.n ∧ (j * g.per + 1 ≤ m.v + 1 ∧ m.v + 1 ≤ m'.last + 1)
    rw [e2, e3]; exact ⟨p1, p2, by omega, by omega⟩
  · show m.v + 1 ≤ m'.last
    rw [e3]; rw [hpc] at e; split at e <;> omega
  · rw [hpc] at e; split at e <;> omega
  · rw [hpc] at e; split at e <;> omega
  · rw [hpc] at e; split at e <;> omega
  · show m.v + 1 = m'.last + 1
    rw [e3]; rw [hpc] at e; split at e <;> omega
  · rw [gone u u1 u2]
    rcases c with c | ⟨_, c⟩ | ⟨c, _⟩
    · exact h.b u u1 u2 (.inl c)
    · have c : u < m.v + 1 := c
      by_cases e : u = m.v
      · rw [e]; exact hg
      · exact h.b u u1 u2 (.inr (.inl ⟨a, by omega⟩))
    · omega
  · have : wtime n (wgo m' (m.v + 1)) ≤ 6 * (m.last - m.v) + 1 := by
      unfold wtime
      rw [if_neg (by omega), if_neg (by omega)]
      by_cases hlt : m.v + 1 ≤ m.last
      · rw [if_pos (by rw [hpc, if_pos hlt])]
        show 6 * (m'.last - (m.v + 1)) + 7 ≤ _
        rw [e3]; omega
      · have e7 : (wgo m' (m.v + 1)).pc = 7 := by rw [hpc, if_neg hlt]
        rw [if_neg (by omega), if_neg (by omega), if_neg (by omega), if_neg (by omega), if_pos e7]; omega
    omega
  · have e : m'.ek = 5 := e
    omega
theorem WA.step (h : WA n g cy L j m) (h0 : m.pc ≠ 0) : WStepped n g cy L j m (wstp g L m).1 (wstp g L m).2 := by
  have G := h.gw
  have hP := parts_pos G
  have h9 := G.n9
  have hn := G.n0
  have hj := h.j0
  have hper := G.per
  have hpc := h.pc
  have hsame : ∀ u : Int, 1 ≤ u → u ≤ n → L.getD (g.st u).toNat 0 = L.getD (g.st u).toNat 0 ∧ L.getD (g.ma u).toNat 0 = L.getD (g.ma u).toNat 0 := fun _ _ _ => ⟨rfl, rfl⟩
  have hpt1 : m.pc = 1 ∨ m.pc = 2 ∨ m.pc = 3 ∨ m.pc = 4 ∨ m.pc = 5 ∨ m.pc = 6 ∨ m.pc = 7 := by omega
  rcases hpt1 with p | p | p | p | p | p | p
  · -- the word
    have sw := h.sw
    have dn := h.dn
    rw [if_pos (.inl p)] at sw
    rw [if_neg (by omega)] at dn
    have e0 : ldq L g.sw = cy % 4294967296 * 4294967296 + j := by rw [ld_in G.sw]; exact sw
    obtain ⟨eh, el⟩ := hi_w (c := cy) hj.1 (show j < 4294967296 by omega)
    obtain ⟨m', hm'⟩ : ∃ m', m' = { wq m with w := cy % 4294967296 * 4294967296 + j, pc := 2 } := ⟨_, rfl⟩
    have es : wstp g L m = (L, m') := by
      unfold wstp; rw [if_pos p, e0, eh, el, h.cyc, if_pos ⟨rfl, hj.2⟩, hm']
    have q : m'.pc = 2 := by rw [hm']
    rw [es]
    dsimp only
    refine ⟨⟨G, by rw [hm']; exact h.cyc, by omega, hj, by rw [sw, if_pos (.inr q)], by rw [dn, if_neg (by omega)], fun _ => by rw [hm'], fun e => by omega, fun e => by omega, fun e => by omega, fun e => by omega, fun e => by omega, fun e => by omega, fun e => by omega, fun u a b c => ?_⟩, ?_, fun e => by rw [hm'] at e; simp [wq] at e, fun _ _ _ c => c, rfl⟩
    · rcases c with c | ⟨c, _⟩ | ⟨c, _⟩
      · exact h.b u a b (.inl c)
      · omega
      · omega
    · have e1 : wtime n m = 6 * n + 9 := by unfold wtime; rw [if_pos p]
      have e2 : wtime n m' = 6 * n + 8 := by unfold wtime; rw [if_neg (by omega), if_pos q]
      omega
  · -- it takes the part
    have sw := h.sw
    have dn := h.dn
    rw [if_pos (.inr p)] at sw
    rw [if_neg (by omega)] at dn
    have ew := h.w2 p
    obtain ⟨eh, el⟩ := hi_w (c := cy) hj.1 (show j < 4294967296 by omega)
    have hnode := part_node hper hj.2
    have hlast : j * g.per + 1 ≤ wmin ((j + 1) * g.per) g.n := by unfold wmin; rw [Int.add_mul, Int.one_mul]; split <;> omega
    have hwm : wmin ((j + 1) * g.per) g.n ≤ g.n := by unfold wmin; split <;> omega
    obtain ⟨m', hm'⟩ : ∃ m', m' = { wq m with part := j, last := wmin ((j + 1) * g.per) g.n, v := j * g.per + 1, pc := 3 } := ⟨_, rfl⟩
    have es : wstp g L m = (ptq L g.sw (cy % 4294967296 * 4294967296 + (j + 1)), m') := by
      unfold wstp; rw [if_neg (by omega), if_pos p, if_pos ⟨G.sw, by rw [ew]; exact sw⟩, ew, el, Int.add_assoc, hm']
      unfold wgo; rw [if_pos hlast]
    have q : m'.pc = 3 := by rw [hm']
    have qv : m'.v = j * g.per + 1 ∧ m'.last = wmin ((j + 1) * g.per) g.n ∧ m'.part = j ∧ m'.cy = cy ∧ m'.ek = 0 := by rw [hm']; exact ⟨rfl, rfl, rfl, h.cyc, rfl⟩
    rw [es]
    dsimp only
    have gone : ∀ u : Int, 1 ≤ u → u ≤ n → (Gone g (ptq L g.sw (cy % 4294967296 * 4294967296 + (j + 1))) cy u ↔ Gone g L cy u) := fun u a b => gone_same (pt_other (G.s u a b).1 (G.s u a b).2.2.1) (pt_other (G.m u a b).1 (G.m u a b).2.2.1)
    have h4 : 0 ≤ j * g.per := Int.mul_nonneg hj.1 (by omega)
    refine ⟨⟨by rw [pt_len]; exact G, qv.2.2.2.1, by omega, hj, by rw [pt_same G.sw, if_neg (by omega)], by rw [pt_other G.dn.1 G.sd.symm, dn, if_neg (by omega)], fun e => by omega, fun _ => ⟨qv.2.2.1, qv.2.1, by omega, by omega⟩, fun _ _ => by omega, fun e => by omega, fun e => by omega, fun e => by omega, fun e => by omega, fun e => by omega, fun u a b c => ?_⟩, ?_, fun e => by have := qv.2.2.2.2; omega, fun u a b c => by rw [gone u a b]; exact c, pt_len ..⟩
    · rw [gone u a b]
      rcases c with c | ⟨_, c⟩ | ⟨c, _⟩
      · exact h.b u a b (.inl c)
      · exact h.b u a b (.inl (by omega))
      · omega
    · have e1 : wtime n m = 6 * n + 8 := by unfold wtime; rw [if_neg (by omega), if_pos p]
      have e2 : wtime n m' = 6 * (m'.last - m'.v) + 7 := by unfold wtime; rw [if_neg (by omega), if_neg (by omega), if_pos q]
      omega
  · -- the state
    obtain ⟨v1, v2, v3⟩ := h.node (by omega) (by omega)
    have e0 : ldq L (g.st m.v) = L.getD (g.st m.v).toNat 0 := ld_in ⟨(G.s _ v1 v2).1, (G.s _ v1 v2).2.1⟩
    have et : wtime n m = 6 * (m.last - m.v) + 7 := by unfold wtime; rw [if_neg (by omega), if_neg (by omega), if_pos p]
    by_cases h1 : L.getD (g.st m.v).toNat 0 = 1
    · obtain ⟨m', hm'⟩ : ∃ m', m' = { wq m with pc := 4 } := ⟨_, rfl⟩
      have es : wstp g L m = (L, m') := by unfold wstp; rw [if_neg (by omega), if_neg (by omega), if_pos p, e0, if_pos h1, hm']
      have q : m'.pc = 4 := by rw [hm']
      have qv : m'.v = m.v ∧ m'.last = m.last ∧ m'.part = m.part ∧ m'.cy = m.cy ∧ m'.ek = 0 := by rw [hm']; exact ⟨rfl, rfl, rfl, rfl, rfl⟩
      have sw := h.sw
      have dn := h.dn
      rw [if_neg (by omega)] at sw dn
      rw [es]
      dsimp only
      refine ⟨⟨G, by rw [qv.2.2.2.1]; exact h.cyc, by omega, hj, by rw [sw, if_neg (by omega)], by rw [dn, if_neg (by omega)], fun e => by omega, fun _ => by rw [qv.1, qv.2.1, qv.2.2.1]; exact h.pt (by omega), fun _ _ => by rw [qv.1, qv.2.1]; exact h.p6 (by omega) (by omega), fun _ => by rw [qv.1]; exact h1, fun e => by omega, fun e => by omega, fun e => by omega, fun e => by omega, fun u a b c => ?_⟩, ?_, fun e => by have := qv.2.2.2.2; omega, fun _ _ _ c => c, rfl⟩
      · rcases c with c | ⟨_, c⟩ | ⟨c, _⟩
        · exact h.b u a b (.inl c)
        · rw [qv.1] at c; exact h.b u a b (.inr (.inl ⟨by omega, c⟩))
        · omega
      · have e2 : wtime n m' = 6 * (m'.last - m'.v) + 6 := by unfold wtime; rw [if_neg (by omega), if_neg (by omega), if_neg (by omega), if_pos q]
        omega
    · have es : wstp g L m = (L, wgo (wq m) (m.v + 1)) := by unfold wstp; rw [if_neg (by omega), if_neg (by omega), if_pos p, e0, if_neg h1]
      rw [es]
      exact h.next (by omega) (by omega) ⟨rfl, rfl, rfl, rfl⟩ rfl rfl rfl hsame (fun e => h1 e.1) (by omega)
  · -- the mark
    obtain ⟨v1, v2, v3⟩ := h.node (by omega) (by omega)
    have e0 : ldq L (g.ma m.v) = L.getD (g.ma m.v).toNat 0 := ld_in ⟨(G.m _ v1 v2).1, (G.m _ v1 v2).2.1⟩
    have et : wtime n m = 6 * (m.last - m.v) + 6 := by unfold wtime; rw [if_neg (by omega), if_neg (by omega), if_neg (by omega), if_pos p]
    by_cases h1 : L.getD (g.ma m.v).toNat 0 < cy
    · obtain ⟨m', hm'⟩ : ∃ m', m' = { wq m with pc := 5 } := ⟨_, rfl⟩
      have es : wstp g L m = (L, m') := by unfold wstp; rw [if_neg (by omega), if_neg (by omega), if_neg (by omega), if_pos p, e0, h.cyc, if_pos h1, hm']
      have q : m'.pc = 5 := by rw [hm']
      have qv : m'.v = m.v ∧ m'.last = m.last ∧ m'.part = m.part ∧ m'.cy = m.cy ∧ m'.ek = 0 := by rw [hm']; exact ⟨rfl, rfl, rfl, rfl, rfl⟩
      have sw := h.sw
      have dn := h.dn
      rw [if_neg (by omega)] at sw dn
      rw [es]
      dsimp only
      refine ⟨⟨G, by rw [qv.2.2.2.1]; exact h.cyc, by omega, hj, by rw [sw, if_neg (by omega)], by rw [dn, if_neg (by omega)], fun e => by omega, fun _ => by rw [qv.1, qv.2.1, qv.2.2.1]; exact h.pt (by omega), fun _ _ => by rw [qv.1, qv.2.1]; exact h.p6 (by omega) (by omega), fun e => by omega, fun _ => by rw [qv.1]; exact ⟨h.p4 p, h1⟩, fun e => by omega, fun e => by omega, fun e => by omega, fun u a b c => ?_⟩, ?_, fun e => by have := qv.2.2.2.2; omega, fun _ _ _ c => c, rfl⟩
      · rcases c with c | ⟨_, c⟩ | ⟨c, _⟩
        · exact h.b u a b (.inl c)
        · rw [qv.1] at c; exact h.b u a b (.inr (.inl ⟨by omega, c⟩))
        · omega
      · have e2 : wtime n m' = 6 * (m'.last - m'.v) + 5 := by unfold wtime; rw [if_neg (by omega), if_neg (by omega), if_neg (by omega), if_neg (by omega), if_pos q]
        omega
    · have es : wstp g L m = (L, wgo (wq m) (m.v + 1)) := by unfold wstp; rw [if_neg (by omega), if_neg (by omega), if_neg (by omega), if_pos p, e0, h.cyc, if_neg h1]
      rw [es]
      exact h.next (by omega) (by omega) ⟨rfl, rfl, rfl, rfl⟩ rfl rfl rfl hsame (fun e => h1 e.2) (by omega)
  · -- it is freed
    obtain ⟨v1, v2, v3⟩ := h.node (by omega) (by omega)
    have hg := h.p5 p
    have gs := G.s _ v1 v2
    have et : wtime n m = 6 * (m.last - m.v) + 5 := by unfold wtime; rw [if_neg (by omega), if_neg (by omega), if_neg (by omega), if_neg (by omega), if_pos p]
    obtain ⟨m', hm'⟩ : ∃ m', m' = { m with ek := 5, ea := m.v, x := mPush (g.hk (g.cl m.v)) m.v, pc := 6 } := ⟨_, rfl⟩
    have es : wstp g L m = (ptq L (g.st m.v) 0, m') := by unfold wstp; rw [if_neg (by omega), if_neg (by omega), if_neg (by omega), if_neg (by omega), if_pos p, hm']
    have q : m'.pc = 6 := by rw [hm']
    have qv : m'.v = m.v ∧ m'.last = m.last ∧ m'.part = m.part ∧ m'.cy = m.cy ∧ m'.x = mPush (g.hk (g.cl m.v)) m.v := by rw [hm']; exact ⟨rfl, rfl, rfl, rfl, rfl⟩
    have sw := h.sw
    have dn := h.dn
    rw [if_neg (by omega)] at sw dn
    rw [es]
    dsimp only
    have ng : ∀ u : Int, 1 ≤ u → u ≤ n → ¬ Gone g L cy u → ¬ Gone g (ptq L (g.st m.v) 0) cy u := fun u a b c => by
      by_cases e : u = m.v
      · subst e; exact absurd hg c
      · rw [gone_same (pt_other (G.s u a b).1 fun e2 => e (G.si _ _ a b v1 v2 e2)) (pt_other (G.m u a b).1 fun e2 => G.sm _ _ v1 v2 a b e2.symm)]; exact c
    have ngv : ¬ Gone g (ptq L (g.st m.v) 0) cy m.v := fun e => by
      have := e.1; rw [pt_same ⟨gs.1, gs.2.1⟩] at this; omega
    refine ⟨⟨by rw [pt_len]; exact G, by rw [qv.2.2.2.1]; exact h.cyc, by omega, hj, by rw [pt_other G.sw.1 gs.2.2.1.symm, sw, if_neg (by omega)], by rw [pt_other G.dn.1 gs.2.2.2.symm, dn, if_neg (by omega)], fun e => by omega, fun _ => by rw [qv.1, qv.2.1, qv.2.2.1]; exact h.pt (by omega), fun _ _ => by rw [qv.1, qv.2.1]; exact h.p6 (by omega) (by omega), fun e => by omega, fun e => by omega, fun _ => by rw [qv.1, qv.2.2.2.2]; exact ⟨ngv, rfl, rfl, by unfold mPush; exact item_v _ v1 (by omega), .inl rfl⟩, fun e => by omega, fun e => by omega, fun u a b c => ?_⟩, ?_, fun _ => ⟨hg, v1, v2⟩, ng, pt_len ..⟩
    · refine ng u a b ?_
      rcases c with c | ⟨_, c⟩ | ⟨c, _⟩
      · exact h.b u a b (.inl c)
      · rw [qv.1] at c; exact h.b u a b (.inr (.inl ⟨by omega, c⟩))
      · omega
    · have e2 : wtime n m' = 6 * (m'.last - m'.v) + (4 - (m'.x.pc : Int)) + 1 := by unfold wtime; rw [if_neg (by omega), if_neg (by omega), if_neg (by omega), if_neg (by omega), if_neg (by omega), if_pos q]
      have e3 : m'.x.pc = 1 := by rw [qv.2.2.2.2]; rfl
      omega
  · -- the push
    obtain ⟨v1, v2, v3⟩ := h.node (by omega) (by omega)
    obtain ⟨hg, xk, xs, xi, xp⟩ := h.x6 p
    have hc := G.cl _ v1 v2
    have gk := G.k _ hc
    have et : wtime n m = 6 * (m.last - m.v) + (4 - (m.x.pc : Int)) + 1 := by unfold wtime; rw [if_neg (by omega), if_neg (by omega), if_neg (by omega), if_neg (by omega), if_neg (by omega), if_pos p]
    have lv := gk.lk _ v1 v2
    have sw := h.sw
    have dn := h.dn
    rw [if_neg (by omega)] at sw dn
    -- what a word of the stack's leaves
    have hw : ∀ q y : Int, (q = (g.hk (g.cl m.v)).head ∨ q = atOf (g.hk (g.cl m.v)).links m.v) → (ptq L q y).getD g.sw.toNat 0 = L.getD g.sw.toNat 0 ∧ (ptq L q y).getD g.dn.toNat 0 = L.getD g.dn.toNat 0 ∧ ∀ u : Int, 1 ≤ u → u ≤ n → (ptq L q y).getD (g.st u).toNat 0 = L.getD (g.st u).toNat 0 ∧ (ptq L q y).getD (g.ma u).toNat 0 = L.getD (g.ma u).toNat 0 := fun q y hq => by
      have hh := G.h _ hc
      have hl := G.l _ _ hc v1 v2
      rcases hq with rfl | rfl
      · exact ⟨pt_other G.sw.1 hh.1.symm, pt_other G.dn.1 hh.2.1.symm, fun u a b => ⟨pt_other (G.s u a b).1 (hh.2.2 u a b).1.symm, pt_other (G.m u a b).1 (hh.2.2 u a b).2.symm⟩⟩
      · exact ⟨pt_other G.sw.1 hl.1.symm, pt_other G.dn.1 hl.2.1.symm, fun u a b => ⟨pt_other (G.s u a b).1 (hl.2.2 u a b).1.symm, pt_other (G.m u a b).1 (hl.2.2 u a b).2.symm⟩⟩
    have on : ∀ (L' : List Int) (x' : Sm), L'.length = L.length → L'.getD g.sw.toNat 0 = L.getD g.sw.toNat 0 → L'.getD g.dn.toNat 0 = L.getD g.dn.toNat 0 → (∀ u : Int, 1 ≤ u → u ≤ n → L'.getD (g.st u).toNat 0 = L.getD (g.st u).toNat 0 ∧ L'.getD (g.ma u).toNat 0 = L.getD (g.ma u).toNat 0) → WXx L' (g.hk (g.cl m.v)) m.v x' → x'.pc = m.x.pc + 1 → WStepped n g cy L j m L' { wq m with x := x' } := fun L' x' l1 l2 l3 l4 hx hp => by
      have gone : ∀ u : Int, 1 ≤ u → u ≤ n → (Gone g L' cy u ↔ Gone g L cy u) := fun u a b => gone_same (l4 u a b).1 (l4 u a b).2
      have q : ({ wq m with x := x' } : Wn).pc = 6 := p
      refine ⟨⟨by rw [l1]; exact G, h.cyc, by omega, hj, by rw [l2, sw, if_neg (by omega)], by rw [l3, dn, if_neg (by omega)], fun e => by omega, fun _ => h.pt (by omega), fun _ _ => h.p6 (by omega) (by omega), fun e => by omega, fun e => by omega, fun _ => ⟨fun e => hg ((gone _ v1 v2).1 e), hx⟩, fun e => by omega, fun e => by omega, fun u a b c => ?_⟩, ?_, fun e => by simp [wq] at e, fun u a b c => by rw [gone u a b]; exact c, l1⟩
      · rw [gone u a b]
        rcases c with c | ⟨_, c⟩ | ⟨c, _⟩
        · exact h.b u a b (.inl c)
        · exact h.b u a b (.inr (.inl ⟨by omega, c⟩))
        · omega
      · have e2 : wtime n { wq m with x := x' } = 6 * (m.last - m.v) + (4 - (x'.pc : Int)) + 1 := by unfold wtime; rw [if_neg (by omega), if_neg (by omega), if_neg (by omega), if_neg (by omega), if_neg (by omega), if_pos q]; rfl
        omega
    have es0 : wstp g L m = ((sstp L m.x).1, if (sstp L m.x).2.pc = 0 then wgo { wq m with x := (sstp L m.x).2 } (m.v + 1) else { wq m with x := (sstp L m.x).2 }) := by
      unfold wstp; rw [if_neg (by omega), if_neg (by omega), if_neg (by omega), if_neg (by omega), if_neg (by omega), if_pos p]
    rw [es0]
    generalize hmx : m.x = y at xk xs xi xp ⊢
    obtain ⟨kind, pc, k, item, hh, link, tries⟩ := y
    dsimp only at xk xs xi xp
    subst xk xs xi
    rcases xp with xp | ⟨xp | xp, xh⟩
    · subst xp
      have e : sstp L ⟨1, 1, g.hk (g.cl m.v), m.v, hh, link, tries⟩ = (L, ⟨1, 2, g.hk (g.cl m.v), m.v, ldq L (g.hk (g.cl m.v)).head, low (ldq L (g.hk (g.cl m.v)).head), tries + 1⟩) := by simp [sstp]
      rw [e]
      dsimp only
      rw [if_neg (by decide)]
      exact on L _ rfl rfl rfl hsame ⟨rfl, rfl, rfl, .inr ⟨.inl rfl, ld_in gk.hd⟩⟩ (by rw [hmx])
    · subst xp
      have e : sstp L ⟨1, 2, g.hk (g.cl m.v), m.v, hh, link, tries⟩ = (ptq L (atOf (g.hk (g.cl m.v)).links m.v) link, ⟨1, 3, g.hk (g.cl m.v), m.v, hh, link, tries⟩) := by simp [sstp]
      rw [e]
      dsimp only
      rw [if_neg (by decide)]
      obtain ⟨a, b, c⟩ := hw _ link (.inr rfl)
      exact on _ _ (pt_len ..) a b c ⟨rfl, rfl, rfl, .inr ⟨.inr rfl, by rw [pt_other gk.hd.1 lv.2.2.symm]; exact xh⟩⟩ (by rw [hmx])
    · subst xp
      have e : sstp L ⟨1, 3, g.hk (g.cl m.v), m.v, hh, link, tries⟩ = (ptq L (g.hk (g.cl m.v)).head (turnw hh m.v), ⟨1, 0, g.hk (g.cl m.v), m.v, hh, link, tries⟩) := by
        have := swap_yes (L := L) (m := ⟨1, 3, g.hk (g.cl m.v), m.v, hh, link, tries⟩) m.v gk.hd xh.symm
        simp [sstp, this]
      rw [e]
      dsimp only
      rw [if_pos rfl]
      obtain ⟨a, b, c⟩ := hw _ (turnw hh m.v) (.inl rfl)
      have e3 : m.x.pc = 3 := by rw [hmx]
      exact h.next (by omega) (by omega) ⟨rfl, rfl, rfl, rfl⟩ (pt_len ..) a b c hg (by omega)
  · -- the end
    obtain ⟨p1, p2, p3, p4⟩ := h.pt (by omega)
    have p7 := h.p7 p
    have sw := h.sw
    have dn := h.dn
    rw [if_neg (by omega)] at sw dn
    have e0 : ldq L g.dn = j := by rw [ld_in G.dn]; exact dn
    obtain ⟨m', hm'⟩ : ∃ m', m' = { m with ek := 6, ea := m.part, pc := 0 } := ⟨_, rfl⟩
    have es : wstp g L m = (ptq L g.dn (j + 1), m') := by unfold wstp; rw [if_neg (by omega), if_neg (by omega), if_neg (by omega), if_neg (by omega), if_neg (by omega), if_neg (by omega), if_pos p, e0, hm', Int.emod_eq_of_lt (by omega) (by omega)]
    have q : m'.pc = 0 := by rw [hm']
    rw [es]
    dsimp only
    have gone : ∀ u : Int, 1 ≤ u → u ≤ n → (Gone g (ptq L g.dn (j + 1)) cy u ↔ Gone g L cy u) := fun u a b => gone_same (pt_other (G.s u a b).1 (G.s u a b).2.2.2) (pt_other (G.m u a b).1 (G.m u a b).2.2.2)
    refine ⟨⟨by rw [pt_len]; exact G, by rw [hm']; exact h.cyc, by omega, hj, by rw [pt_other G.sw.1 G.sd, sw, if_neg (by omega)], by rw [pt_same G.dn, if_pos q], fun e => by omega, fun e => by omega, fun e => by omega, fun e => by omega, fun e => by omega, fun e => by omega, fun e => by omega, fun _ => by rw [hm']; exact ⟨p1, rfl, p1⟩, fun u a b c => ?_⟩, ?_, fun e => by rw [hm'] at e; simp at e, fun u a b c => by rw [gone u a b]; exact c, pt_len ..⟩
    · rw [gone u a b]
      rcases c with c | ⟨c, _⟩ | ⟨_, c⟩
      · exact h.b u a b (.inl c)
      · omega
      · refine h.b u a b (.inr (.inl ⟨by omega, ?_⟩))
        have : u ≤ m.last := by rw [p2]; unfold wmin; split <;> omega
        omega
    · have e1 : wtime n m = 1 := by unfold wtime; rw [if_neg (by omega), if_neg (by omega), if_neg (by omega), if_neg (by omega), if_neg (by omega), if_neg (by omega), if_pos p]
      have e2 : wtime n m' = 0 := by unfold wtime; simp [q]
      omega
theorem WA.time (h : WA n g cy L j m) : 0 ≤ wtime n m ∧ (m.pc ≠ 0 → 1 ≤ wtime n m) := by
  have p6 := h.p6
  have hx : m.pc = 6 → m.x.pc ≤ 3 := fun e => by
    obtain ⟨_, _, _, _, x | ⟨x | x, _⟩⟩ := h.x6 e <;> omega
  have hpc := h.pc
  unfold wtime
  have : m.pc = 0 ∨ m.pc = 1 ∨ m.pc = 2 ∨ m.pc = 3 ∨ m.pc = 4 ∨ m.pc = 5 ∨ m.pc = 6 ∨ m.pc = 7 := by omega
  rcases this with e | e | e | e | e | e | e | e <;> simp [e] <;> first | omega | (have := p6 (by omega) (by omega); omega) | (have := p6 (by omega) (by omega); have := hx e; omega)
end
end Go.Proofs.YtbpkcoemehmpbaaGreat
