
import Derived.Test.YthoiaffeenhfgaaGreatJ3
namespace Go.Proofs.YthoiaffeenhfgaaGreat
set_option linter.unusedVariables false
set_option linter.unusedSimpArgs false
def XPu (k : Sk) (v : Int) (x : Sm) : Prop := (x.kind = 1 ∧ x.k = k ∧ x.item = v) ∧ 1 ≤ x.pc ∧ x.pc ≤ 3
def dueL (L : List Int) (x : Sm) : Int := if x.pc = 0 then 0 else if x.pc = 1 then 3 else if L.getD x.k.head.toNat 0 = x.h then 4 - x.pc else 7 - x.pc
def wdl (g : Wg) (L : List Int) (m : Wn) : Int :=
  if m.pc = 3 then 6 * (m.last - m.v) + 7 else if m.pc = 4 then 6 * (m.last - m.v) + 6 else if m.pc = 5 then 6 * (m.last - m.v) + 5
  else if m.pc = 6 then 6 * (m.last - m.v) + dueL L m.x + 1 else if m.pc = 7 then 1 else 0
theorem dueL_top (L : List Int) (x : Sm) (h1 : 1 ≤ x.pc) (h : x.pc ≤ 3) : 1 ≤ dueL L x ∧ dueL L x ≤ 5 := by
  unfold dueL; repeat' split
  all_goals omega
structure MJ (n : Nat) (g : Wg) (cy : Int) (L0 L : List Int) (T : Int) (F : Int → Nat) (PD : Int → Bool) (m : Wn) : Prop where
  cyc : m.cy = cy
  pc : m.pc ≤ 7
  p2 : m.pc = 2 → ∃ T', m.w = cy % 4294967296 * 4294967296 + T' ∧ 0 ≤ T' ∧ T' ≤ T ∧ T' < g.parts
  pt : 3 ≤ m.pc → (0 ≤ m.part ∧ m.part < T) ∧ PD m.part = false ∧ m.last = wmin ((m.part + 1) * g.per) g.n ∧ (m.part * g.per + 1 ≤ m.v ∧ m.v ≤ m.last + 1) ∧
    ∀ u : Int, 1 ≤ u → u ≤ n → InPt g m.part u → (u < m.v → F u = 2) ∧ (m.v < u → F u = 0)
  p6 : 3 ≤ m.pc → m.pc ≤ 6 → m.v ≤ m.last
  f0 : 3 ≤ m.pc → m.pc ≤ 5 → F m.v = 0
  p4 : m.pc = 4 → L0.getD (g.st m.v).toNat 0 = 1
  p5 : m.pc = 5 → Gone g L0 cy m.v
  x6 : m.pc = 6 → F m.v = 1 ∧ Gone g L0 cy m.v ∧ XPu (g.hk (g.cl m.v)) m.v m.x
  p7 : m.pc = 7 → m.v = m.last + 1
structure SWQ (K n : Nat) (g : Wg) (cy : Int) (L0 L : List Int) (T : Int) (F : Int → Nat) (PD : Int → Bool) (M : Nat → Wn) : Prop where
  gw : Gw n L.length g
  len : L.length = L0.length
  sw : L.getD g.sw.toNat 0 = cy % 4294967296 * 4294967296 + T
  t : 0 ≤ T ∧ T ≤ g.parts
  ma : ∀ v : Int, 1 ≤ v → v ≤ n → L.getD (g.ma v).toNat 0 = L0.getD (g.ma v).toNat 0
  st0 : ∀ v : Int, 1 ≤ v → v ≤ n → (F v = 0 ∨ ¬ Gone g L0 cy v) → L.getD (g.st v).toNat 0 = L0.getD (g.st v).toNat 0
  st1 : ∀ v : Int, 1 ≤ v → v ≤ n → F v ≠ 0 → Gone g L0 cy v → L.getD (g.st v).toNat 0 = 0
  f : ∀ v : Int, 1 ≤ v → v ≤ n → F v ≤ 2
  pd : ∀ j : Int, PD j = true → (0 ≤ j ∧ j < T) ∧ ∀ v : Int, 1 ≤ v → v ≤ n → InPt g j v → F v = 2
  un : ∀ j v : Int, 1 ≤ v → v ≤ n → InPt g j v → T ≤ j → F v = 0
  ow : ∀ j : Int, 0 ≤ j → j < T → PD j = false → ∃ k, k < K ∧ 3 ≤ (M k).pc ∧ (M k).part = j
  mi : ∀ k, k < K → MJ n g cy L0 L T F PD (M k)
  ds : ∀ k i, k < K → i < K → k ≠ i → 3 ≤ (M k).pc → 3 ≤ (M i).pc → (M k).part ≠ (M i).part
  dn : L.getD g.dn.toNat 0 = ((List.range g.parts.toNat).countP fun (j : Nat) => PD (j : Int) : Nat)
section
variable {K n : Nat} {g : Wg} {cy : Int} {L0 L L' : List Int} {T T' : Int} {F F' : Int → Nat} {PD PD' : Int → Bool} {M : Nat → Wn} {m m' : Wn} {k : Nat}
theorem MJ.mono (h : MJ n g cy L0 L T F PD m) (hT : T ≤ T') (hF : ∀ u : Int, 3 ≤ m.pc → 1 ≤ u → u ≤ n → InPt g m.part u → F' u = F u) (hP : 3 ≤ m.pc → PD' m.part = PD m.part)
    (hv : 3 ≤ m.pc → m.pc ≤ 6 → 1 ≤ m.v ∧ m.v ≤ n ∧ InPt g m.part m.v) : MJ n g cy L0 L' T' F' PD' m := by
  refine ⟨h.cyc, h.pc, fun e => ?_, fun e => ?_, h.p6, fun e e2 => ?_, h.p4, h.p5, fun e => ?_, h.p7⟩
  · obtain ⟨t, a, b, c, d⟩ := h.p2 e; exact ⟨t, a, b, by omega, d⟩
  · obtain ⟨a, b, c, d, f⟩ := h.pt e
    exact ⟨by omega, by rw [hP e]; exact b, c, d, fun u u1 u2 u3 => by rw [hF u e u1 u2 u3]; exact f u u1 u2 u3⟩
  · obtain ⟨a, b, c⟩ := hv e (by omega)
    rw [hF _ e a b c]; exact h.f0 e e2
  · obtain ⟨a, b, c⟩ := hv (by omega) (by omega)
    obtain ⟨d, e1, e2⟩ := h.x6 e
    exact ⟨by rw [hF _ (by omega) a b c]; exact d, e1, e2⟩
theorem MJ.node (h : MJ n g cy L0 L T F PD m) (hg : g.n = n) (hper : 1 ≤ g.per) (a : 3 ≤ m.pc) (b : m.pc ≤ 6) : 1 ≤ m.v ∧ m.v ≤ n ∧ InPt g m.part m.v := by
  obtain ⟨⟨p0, _⟩, _, hl, ⟨h1, h2⟩, _⟩ := h.pt a
  have h3 := h.p6 a b
  have h4 : 0 ≤ m.part * g.per := Int.mul_nonneg p0 (by omega)
  have h5 : m.last ≤ (m.part + 1) * g.per ∧ m.last ≤ g.n := by rw [hl]; unfold wmin; split <;> omega
  exact ⟨by omega, by omega, by omega, by omega⟩
theorem MJ.next (h : MJ n g cy L0 L T F PD m) (hn : g.n = n) (hper : 1 ≤ g.per) (a : 3 ≤ m.pc) (b : m.pc ≤ 6) (hT : T ≤ T') (hP : PD' m.part = PD m.part) (h2 : F' m.v = 2) (hF : ∀ u : Int, u ≠ m.v → F' u = F u)
    (hm : m'.cy = m.cy ∧ m'.part = m.part ∧ m'.last = m.last) : MJ n g cy L0 L' T' F' PD' (wgo m' (m.v + 1)) := by
  obtain ⟨e1, e2, e3⟩ := hm
  obtain ⟨hp, hpd, hl, hv, hu⟩ := h.pt a
  have h6 := h.p6 a b
  obtain ⟨_, _, hin⟩ := h.node hn hper a b
  have hlast : m.last ≤ (m.part + 1) * g.per ∧ m.last ≤ g.n := by rw [hl]; unfold wmin; split <;> omega
  have hpc : (wgo m' (m.v + 1)).pc = if m.v + 1 ≤ m.last then 3 else 7 := by unfold wgo; rw [e3]
  refine ⟨by show m'.cy = cy; rw [e1]; exact h.cyc, by rw [hpc]; split <;> omega, fun e => by rw [hpc] at e; split at e <;> omega, fun _ => ?_, fun _ e => ?_, fun _ e => ?_, fun e => by rw [hpc] at e; split at e <;> omega, fun e => by rw [hpc] at e; split at e <;> omega, fun e => by rw [hpc] at e; split at e <;> omega, fun e => ?_⟩
  · show (0 ≤ m'.part ∧ m'.part < T') ∧ PD' m'.part = false ∧ m'.last = wmin ((m'.part + 1) * g.per) g.n ∧ (m'.part * g.per + 1 ≤ m.v + 1 ∧ m.v + 1 ≤ m'.last + 1) ∧ ∀ u : Int, 1 ≤ u → u ≤ n → InPt g m'.part u → (u < m.v + 1 → F' u = 2) ∧ (m.v + 1 < u → F' u = 0)
    rw [e2, e3]
    refine ⟨by omega, by rw [hP]; exact hpd, hl, by omega, fun u u1 u2 u3 => ⟨fun hlt => ?_, fun hlt => ?_⟩⟩
    · by_cases e : u = m.v
      · rw [e]; exact h2
      · rw [hF u e]; exact (hu u u1 u2 u3).1 (by omega)
    · rw [hF u (by omega)]; exact (hu u u1 u2 u3).2 (by omega)
  · show m.v + 1 ≤ m'.last
    rw [e3]; rw [hpc] at e; split at e <;> omega
  · show F' (m.v + 1) = 0
    have hlt : m.v + 1 ≤ m.last := by rw [hpc] at e; split at e <;> omega
    rw [hF _ (by omega)]
    exact (hu (m.v + 1) (by omega) (by omega) ⟨by have := hin.1; omega, by omega⟩).2 (by omega)
  · show m.v + 1 = m'.last + 1
    rw [e3]; rw [hpc] at e; split at e <;> omega
theorem push_1 {x : Sm} (xk : x.kind = 1) (p : x.pc = 1) : ∃ x', sstp L x = (L, x') ∧ x'.kind = 1 ∧ x'.k = x.k ∧ x'.item = x.item ∧ x'.pc = 2 ∧ x'.h = ldq L x.k.head :=
  ⟨{ x with pc := 2, h := ldq L x.k.head, link := low (ldq L x.k.head), tries := x.tries + 1 }, by unfold sstp; rw [if_neg (by omega), if_pos p, if_pos xk], xk, rfl, rfl, rfl, rfl⟩
theorem push_2 {x : Sm} (xk : x.kind = 1) (p : x.pc = 2) : ∃ x' u, sstp L x = (ptq L (atOf x.k.links x.item) u, x') ∧ x'.kind = 1 ∧ x'.k = x.k ∧ x'.item = x.item ∧ x'.pc = 3 ∧ x'.h = x.h :=
  ⟨{ x with pc := 3 }, x.link, by unfold sstp; rw [if_neg (by omega), if_neg (by omega), if_pos p, if_pos xk], xk, rfl, rfl, rfl, rfl⟩
theorem push_3 {x : Sm} (xk : x.kind = 1) (p : x.pc = 3) (hl : 0 ≤ x.k.head ∧ x.k.head < L.length) : (L.getD x.k.head.toNat 0 = x.h ∧ ∃ x' u, sstp L x = (ptq L x.k.head u, x') ∧ x'.pc = 0) ∨ (L.getD x.k.head.toNat 0 ≠ x.h ∧ ∃ x', sstp L x = (L, x') ∧ x'.kind = 1 ∧ x'.k = x.k ∧ x'.item = x.item ∧ x'.pc = 1) := by
  by_cases h : L.getD x.k.head.toNat 0 = x.h
  · refine .inl ⟨h, { x with pc := 0 }, turnw x.h x.item, ?_, rfl⟩
    unfold sstp; rw [if_neg (by omega), if_neg (by omega), if_neg (by omega), if_pos xk, swap_yes _ hl h]
  · refine .inr ⟨h, { x with pc := 1 }, ?_, xk, rfl, rfl, rfl⟩
    unfold sstp; rw [if_neg (by omega), if_neg (by omega), if_neg (by omega), if_pos xk, swap_no _ h]
theorem dueL_1 {x : Sm} (p : x.pc = 1) : dueL L x = 3 := by unfold dueL; rw [if_neg (by omega), if_pos p]
theorem dueL_yes {x : Sm} (p : 2 ≤ x.pc) (h : L.getD x.k.head.toNat 0 = x.h) : dueL L x = 4 - x.pc := by unfold dueL; rw [if_neg (by omega), if_neg (by omega), if_pos h]
theorem dueL_no {x : Sm} (p : 2 ≤ x.pc) (h : L.getD x.k.head.toNat 0 ≠ x.h) : dueL L x = 7 - x.pc := by unfold dueL; rw [if_neg (by omega), if_neg (by omega), if_neg h]
theorem wdl_go (hl : m.v ≤ m.last) (e : m'.last = m.last) : wdl g L (wgo m' (m.v + 1)) ≤ 6 * (m.last - m.v) + 1 := by
  unfold wdl wgo
  by_cases h : m.v + 1 ≤ m'.last
  · rw [if_pos h]; simp only [if_true]; omega
  · rw [if_neg h]; simp; omega
theorem MJ.hds (h : MJ n g cy L0 L T F PD m) (hn : g.n = n) (hper : 1 ≤ g.per) (hc : ∀ v : Int, 1 ≤ v → v ≤ n → g.cl v < 5) (e : ∀ d, d < 5 → L'.getD (g.hk d).head.toNat 0 = L.getD (g.hk d).head.toNat 0) : wdl g L' m = wdl g L m := by
  by_cases h6 : m.pc = 6
  · obtain ⟨_, _, ⟨_, xk, _⟩, _⟩ := h.x6 h6
    obtain ⟨v1, v2, _⟩ := h.node hn hper (by omega) (by omega)
    have := e _ (hc _ v1 v2)
    have ed : dueL L' m.x = dueL L m.x := by unfold dueL; rw [xk, this]
    unfold wdl; rw [ed]
  · unfold wdl; simp only [h6, if_false]
theorem MJ.hd1 (h : MJ n g cy L0 L T F PD m) : wdl g L' m ≤ wdl g L m + 3 := by
  by_cases h6 : m.pc = 6
  · obtain ⟨_, _, _, x1, x3⟩ := h.x6 h6
    have : dueL L' m.x ≤ dueL L m.x + 3 := by unfold dueL; repeat' split
                                              all_goals omega
    have e1 : ∀ l : List Int, wdl g l m = 6 * (m.last - m.v) + dueL l m.x + 1 := fun l => by unfold wdl; rw [if_neg (by omega), if_neg (by omega), if_neg (by omega), if_pos h6]
    rw [e1, e1]; omega
  · have : wdl g L' m = wdl g L m := by unfold wdl; simp only [h6, if_false]
    omega
theorem SWQ.turn (h : SWQ K n g cy L0 L T F PD M) (hk : k < K) (hm : MJ n g cy L0 L T F PD m') (hp : 3 ≤ (M k).pc ↔ 3 ≤ m'.pc) (hpt : 3 ≤ m'.pc → m'.part = (M k).part) : SWQ K n g cy L0 L T F PD (fset M k m') := by
  have key : ∀ i, 3 ≤ (fset M k m' i).pc → 3 ≤ (M i).pc ∧ (fset M k m' i).part = (M i).part := fun i hi => by
    by_cases e : i = k
    · subst e; rw [fset_same] at hi ⊢; exact ⟨hp.2 hi, hpt hi⟩
    · rw [fset_other _ e] at hi ⊢; exact ⟨hi, rfl⟩
  refine ⟨h.gw, h.len, h.sw, h.t, h.ma, h.st0, h.st1, h.f, h.pd, h.un, fun j a b c => ?_, fun i hi => ?_, fun i j hi hj hne a b => ?_, h.dn⟩
  · obtain ⟨i, hi, p, e⟩ := h.ow j a b c
    refine ⟨i, hi, ?_⟩
    by_cases e2 : i = k
    · subst e2; rw [fset_same]; exact ⟨hp.1 p, by rw [hpt (hp.1 p)]; exact e⟩
    · rw [fset_other _ e2]; exact ⟨p, e⟩
  · by_cases e : i = k
    · subst e; rw [fset_same]; exact hm
    · rw [fset_other _ e]; exact h.mi i hi
  · obtain ⟨a1, a2⟩ := key i a
    obtain ⟨b1, b2⟩ := key j b
    rw [a2, b2]; exact h.ds i j hi hj hne a1 b1
def SteppedQ (K n : Nat) (g : Wg) (cy : Int) (L0 : List Int) (L : List Int) (T : Int) (F : Int → Nat) (PD : Int → Bool) (M : Nat → Wn) (k : Nat) (L' : List Int) (m' : Wn) : Prop :=
  ∃ T' F' PD', SWQ K n g cy L0 L' T' F' PD' (fset M k m') ∧ SwEv n g cy L0 F F' PD PD' m'.ek m'.ea ∧
    (T' = T ∨ (T' = T + 1 ∧ (M k).pc = 2 ∧ (M k).w = cy % 4294967296 * 4294967296 + T ∧ m'.v = T * g.per + 1 ∧ m'.last = wmin ((T + 1) * g.per) g.n ∧ m'.pc = 3)) ∧
    (3 ≤ (M k).pc → wdl g L' m' + 1 ≤ wdl g L (M k)) ∧
    (wleft n F' : Int) ≤ wleft n F ∧
    (∀ i, i < K → i ≠ k → wdl g L' (M i) + 3 * (wleft n F' : Int) ≤ wdl g L (M i) + 3 * (wleft n F : Int)) ∧
    ((M k).pc < 3 → T' = T → m'.pc < 3 ∧ ((M k).pc = 1 → T < g.parts → m'.pc = 2 ∧ m'.w = cy % 4294967296 * 4294967296 + T) ∧ ((M k).pc = 2 → (M k).w ≠ cy % 4294967296 * 4294967296 + T ∧ m'.pc = 0)) ∧
    (T' = T → 3 ≤ (M k).pc → 3 ≤ m'.pc ∨ m'.pc = 0) ∧
    (∀ u : Int, F' u ≠ F u → 3 ≤ (M k).pc ∧ InPt g (M k).part u)
theorem SWQ.stepTurn (h : SWQ K n g cy L0 L T F PD M) (hk : k < K) (hm : MJ n g cy L0 L T F PD m') (hp : 3 ≤ (M k).pc ↔ 3 ≤ m'.pc) (hpt : 3 ≤ m'.pc → m'.part = (M k).part) (he : m'.ek = 0 ∧ m'.ea = 0)
    (hd : 3 ≤ (M k).pc → wdl g L m' + 1 ≤ wdl g L (M k))
    (h2 : (M k).pc < 3 → m'.pc < 3 ∧ ((M k).pc = 1 → T < g.parts → m'.pc = 2 ∧ m'.w = cy % 4294967296 * 4294967296 + T) ∧ ((M k).pc = 2 → (M k).w ≠ cy % 4294967296 * 4294967296 + T ∧ m'.pc = 0)) : SteppedQ K n g cy L0 L T F PD M k L m' := by
  refine ⟨T, F, PD, h.turn hk hm hp hpt, ?_, .inl rfl, fun e => by have := hd e; omega, Int.le_refl _, fun i _ _ => Int.le_refl _, fun e _ => h2 e, fun _ e => .inl (hp.1 e), fun u e => absurd rfl e⟩
  rw [he.1, he.2]
  exact .none rfl fun v _ _ _ => Iff.rfl
theorem SWQ.step1 (h : SWQ K n g cy L0 L T F PD M) (hk : k < K) (hp : (M k).pc = 1) : SteppedQ K n g cy L0 L T F PD M k (wstp g L (M k)).1 (wstp g L (M k)).2 := by
  have G := h.gw
  have hP := parts_pos G
  have h9 := G.n9
  have ht := h.t
  have e0 : ldq L g.sw = cy % 4294967296 * 4294967296 + T := by rw [ld_in G.sw]; exact h.sw
  obtain ⟨eh, el⟩ := hi_w (c := cy) ht.1 (show T < 4294967296 by omega)
  have mi := h.mi k hk
  have ec := mi.cyc
  by_cases hT : T < g.parts
  · have es : wstp g L (M k) = (L, { wq (M k) with w := cy % 4294967296 * 4294967296 + T, pc := 2 }) := by
      unfold wstp; rw [if_pos hp, e0, eh, el, ec, if_pos ⟨rfl, hT⟩]
    rw [es]
    refine h.stepTurn hk ⟨ec, by simp, fun _ => ⟨T, rfl, ht.1, Int.le_refl _, hT⟩, fun e => by simp at e, fun e => by simp at e, fun e => by simp at e, fun e => by simp at e, fun e => by simp at e, fun e => by simp at e, fun e => by simp at e⟩ ?_ (fun e => by simp at e) ⟨rfl, rfl⟩ (fun e => by omega) (fun _ => ⟨by simp, fun _ _ => ⟨rfl, rfl⟩, fun e => by omega⟩)
    constructor
    · intro e; omega
    · intro e; simp at e
  · have es : wstp g L (M k) = (L, { wq (M k) with w := cy % 4294967296 * 4294967296 + T, pc := 0 }) := by
      unfold wstp; rw [if_pos hp, e0, eh, el, ec, if_neg (fun e => hT e.2)]
    rw [es]
    refine h.stepTurn hk ⟨ec, by simp, fun e => by simp at e, fun e => by simp at e, fun e => by simp at e, fun e => by simp at e, fun e => by simp at e, fun e => by simp at e, fun e => by simp at e, fun e => by simp at e⟩ ?_ (fun e => by simp at e) ⟨rfl, rfl⟩ (fun e => by omega) (fun _ => ⟨by simp, fun _ e => absurd e hT, fun e => by omega⟩)
    constructor
    · intro e; omega
    · intro e; simp at e
theorem SWQ.step0 (h : SWQ K n g cy L0 L T F PD M) (hk : k < K) (hp : (M k).pc = 0) : SteppedQ K n g cy L0 L T F PD M k (wstp g L (M k)).1 (wstp g L (M k)).2 := by
  have mi := h.mi k hk
  have es : wstp g L (M k) = (L, wq (M k)) := by unfold wstp; simp [hp]
  rw [es]
  refine h.stepTurn hk ⟨mi.cyc, mi.pc, mi.p2, mi.pt, mi.p6, mi.f0, mi.p4, mi.p5, mi.x6, mi.p7⟩ Iff.rfl (fun _ => rfl) ⟨rfl, rfl⟩ (fun e => by omega) (fun _ => ⟨by show (M k).pc < 3; omega, fun e => by omega, fun e => by omega⟩)
theorem SWQ.step2 (h : SWQ K n g cy L0 L T F PD M) (hk : k < K) (hp : (M k).pc = 2) : SteppedQ K n g cy L0 L T F PD M k (wstp g L (M k)).1 (wstp g L (M k)).2 := by
  have G := h.gw
  have hP := parts_pos G
  have h9 := G.n9
  have ht := h.t
  have mi := h.mi k hk
  obtain ⟨T', ew, t0, t1, t2⟩ := mi.p2 hp
  have hper := G.per
  by_cases hT : T' = T
  · subst hT
    obtain ⟨eh, el⟩ := hi_w (c := cy) ht.1 (show T' < 4294967296 by omega)
    have hnode := part_node hper t2
    have hn := G.n0
    have es : wstp g L (M k) = (ptq L g.sw (cy % 4294967296 * 4294967296 + (T' + 1)), wgo { wq (M k) with part := T', last := wmin ((T' + 1) * g.per) g.n } (T' * g.per + 1)) := by
      unfold wstp; rw [if_neg (by omega), if_pos hp, if_pos ⟨G.sw, by rw [ew]; exact h.sw⟩, ew, el, Int.add_assoc]
    have hlast : T' * g.per + 1 ≤ wmin ((T' + 1) * g.per) g.n := by
      unfold wmin; rw [Int.add_mul, Int.one_mul]; split <;> omega
    have epc : (wgo { wq (M k) with part := T', last := wmin ((T' + 1) * g.per) g.n } (T' * g.per + 1)) = { wq (M k) with part := T', last := wmin ((T' + 1) * g.per) g.n, v := T' * g.per + 1, pc := 3 } := by
      unfold wgo; rw [if_pos hlast]
    rw [epc] at es
    rw [es]
    have w1 : ∀ d, d < 5 → (g.hk d).head ≠ g.sw := fun d hd => (G.h d hd).1
    have w2 : ∀ (d : Nat) (x : Int), d < 5 → 1 ≤ x → x ≤ n → atOf (g.hk d).links x ≠ g.sw := fun d x hd a b => (G.l d x hd a b).1
    have hmi : ∀ i, i < K → i ≠ k → MJ n g cy L0 (ptq L g.sw (cy % 4294967296 * 4294967296 + (T' + 1))) (T' + 1) F PD (M i) := fun i hi hne =>
      (h.mi i hi).mono (by omega) (fun u _ _ _ _ => rfl) (fun _ => rfl) (fun a b => (h.mi i hi).node hn hper a b)
    have hwm : ∀ a b : Int, wmin a b ≤ a ∧ wmin a b ≤ b := fun a b => by unfold wmin; split <;> omega
    refine ⟨T' + 1, F, PD, ⟨by rw [pt_len]; exact G, by rw [pt_len]; exact h.len, by rw [pt_same G.sw], by omega, fun v a b => ?_, fun v a b c => ?_, fun v a b c d => ?_, h.f, fun j hj => ?_, fun j v a b c d => h.un j v a b c (by omega), fun j a b c => ?_, fun i hi => ?_, fun i j hi hj hne a b => ?_, ?_⟩, .none rfl fun v _ _ _ => Iff.rfl, .inr ⟨rfl, hp, ew, rfl, rfl, rfl⟩, fun e => by omega, Int.le_refl _, fun i hi hne => by have := (h.mi i hi).hds (L' := ptq L g.sw (cy % 4294967296 * 4294967296 + (T' + 1))) hn hper G.cl (fun d hd => pt_other (G.k d hd).hd.1 (w1 d hd)); dsimp only; omega, fun _ e => by omega, fun e => by omega, fun u e => absurd rfl e⟩
    · rw [pt_other (G.m v a b).1 (G.m v a b).2.2.1]; exact h.ma v a b
    · rw [pt_other (G.s v a b).1 (G.s v a b).2.2.1]; exact h.st0 v a b c
    · rw [pt_other (G.s v a b).1 (G.s v a b).2.2.1]; exact h.st1 v a b c d
    · obtain ⟨a, b⟩ := h.pd j hj; exact ⟨by omega, b⟩
    · by_cases e : j = T'
      · exact ⟨k, hk, by rw [fset_same]; exact ⟨by simp, e.symm⟩⟩
      · obtain ⟨i, hi, p, ep⟩ := h.ow j a (by omega) c
        refine ⟨i, hi, ?_⟩
        rw [fset_other _ (fun e2 => by subst e2; omega)]; exact ⟨p, ep⟩
    · by_cases e : i = k
      · subst e
        rw [fset_same]
        have hPD : PD T' = false := by
          cases hb : PD T' with
          | false => rfl
          | true => have := (h.pd T' hb).1; omega
        refine ⟨mi.cyc, by simp, fun e => by simp at e, fun _ => ⟨by dsimp only; omega, hPD, rfl, by dsimp only; omega, fun u u1 u2 u3 => ?_⟩, fun _ _ => hlast, fun _ _ => ?_, fun e => by simp at e, fun e => by simp at e, fun e => by simp at e, fun e => by simp at e⟩
        · have := h.un T' u u1 u2 u3 (Int.le_refl _)
          have hu : T' * g.per < u := u3.1
          refine ⟨fun hlt => ?_, fun _ => this⟩
          dsimp only at hlt; omega
        · show F (T' * g.per + 1) = 0
          have hb := hwm ((T' + 1) * g.per) g.n
          have h0 : 0 ≤ T' * g.per := Int.mul_nonneg ht.1 (by omega)
          exact h.un T' _ (by omega) (by omega) ⟨by omega, by omega⟩ (Int.le_refl _)
      · rw [fset_other _ e]; exact hmi i hi e
    · by_cases e : i = k
      · subst e
        rw [fset_same] at a ⊢
        rw [fset_other _ (fun e2 => hne e2.symm)] at b ⊢
        have := ((h.mi j hj).pt b).1
        dsimp only; omega
      · rw [fset_other _ e] at a ⊢
        by_cases e2 : j = k
        · subst e2
          rw [fset_same] at b ⊢
          have := ((h.mi i hi).pt a).1
          dsimp only; omega
        · rw [fset_other _ e2] at b ⊢; exact h.ds i j hi hj hne a b
    · rw [pt_other G.dn.1 G.sd.symm]; exact h.dn
  · have es : wstp g L (M k) = (L, { wq (M k) with pc := 0 }) := by
      unfold wstp; rw [if_neg (by omega), if_pos hp, if_neg]
      rintro ⟨_, e⟩
      rw [h.sw, ew] at e; omega
    rw [es]
    refine h.stepTurn hk ⟨mi.cyc, by simp, fun e => by simp at e, fun e => by simp at e, fun e => by simp at e, fun e => by simp at e, fun e => by simp at e, fun e => by simp at e, fun e => by simp at e, fun e => by simp at e⟩ ?_ (fun e => by simp at e) ⟨rfl, rfl⟩ (fun e => by omega) (fun _ => ⟨by simp, fun e => by omega, fun _ => ⟨by rw [ew]; omega, rfl⟩⟩)
    constructor
    · intro e; omega
    · intro e; simp at e
theorem SWQ.oth (h : SWQ K n g cy L0 L T F PD M) (hk : k < K) (a : 3 ≤ (M k).pc) (b : (M k).pc ≤ 6) {i : Nat} (hi : i < K) (hne : i ≠ k) (ai : 3 ≤ (M i).pc) {u : Int} (hu : InPt g (M i).part u) : u ≠ (M k).v := by
  obtain ⟨_, _, hin⟩ := (h.mi k hk).node h.gw.n0 h.gw.per a b
  exact pt_ne h.gw.per hu hin (h.ds i k hi hk hne ai a)
theorem SWQ.skip (h : SWQ K n g cy L0 L T F PD M) (hk : k < K) (hp : (M k).pc = 3 ∨ (M k).pc = 4) (hg : ¬ Gone g L0 cy (M k).v) : SteppedQ K n g cy L0 L T F PD M k L (wgo (wq (M k)) ((M k).v + 1)) := by
  have G := h.gw
  have mi := h.mi k hk
  have a : 3 ≤ (M k).pc := by omega
  have b : (M k).pc ≤ 6 := by omega
  have f0 := mi.f0 a (by omega)
  have h6 := mi.p6 a b
  obtain ⟨v1, v2, vin⟩ := mi.node G.n0 G.per a b
  obtain ⟨hpt, hpd, hlast, hvr, hu⟩ := mi.pt a
  obtain ⟨F', hF'⟩ : ∃ F', F' = iset F (M k).v 2 := ⟨_, rfl⟩
  have e1 : F' (M k).v = 2 := by rw [hF']; exact iset_same ..
  have e2 : ∀ u, u ≠ (M k).v → F' u = F u := fun u hu => by rw [hF']; exact iset_other _ hu
  have hle := wleft_done v1 v2 (show F (M k).v ≠ 2 by omega) e1 e2
  have hdu : wdl g L (wgo (wq (M k)) ((M k).v + 1)) + 1 ≤ wdl g L (M k) := by
    have := wdl_go (g := g) (L := L) (m := M k) (m' := wq (M k)) h6 rfl
    have e : 6 * ((M k).last - (M k).v) + 6 ≤ wdl g L (M k) := by
      unfold wdl
      rcases hp with hp | hp
      · rw [if_pos hp]; omega
      · rw [if_neg (by omega), if_pos hp]; omega
    omega
  have hpc : 3 ≤ (wgo (wq (M k)) ((M k).v + 1)).pc := by unfold wgo; dsimp only; split <;> omega
  have hmi : ∀ i, i < K → i ≠ k → MJ n g cy L0 L T F' PD (M i) := fun i hi hne =>
    (h.mi i hi).mono (Int.le_refl _) (fun u a2 _ _ hu => e2 u (h.oth hk a b hi hne a2 hu)) (fun _ => rfl) (fun a b => (h.mi i hi).node G.n0 G.per a b)
  refine ⟨T, F', PD, ⟨G, h.len, h.sw, h.t, h.ma, fun v a b c => ?_, fun v a b c d => ?_, fun v a b => ?_, fun j hj => ?_, fun j v a b c d => ?_, fun j a2 b2 c => ?_, fun i hi => ?_, fun i j hi hj hne a2 b2 => ?_, h.dn⟩, .none rfl fun v a b c => ?_, .inl rfl, fun _ => by omega, by omega, fun i _ _ => by omega, fun e => by omega, fun _ _ => .inl hpc, fun u e => ⟨by omega, by rcases Decidable.em (u = (M k).v) with y | y; exact y ▸ vin; exact absurd (e2 u y) e⟩⟩
  · by_cases e : v = (M k).v
    · subst e; exact h.st0 _ a b (.inl f0)
    · rw [e2 v e] at c; exact h.st0 v a b c
  · by_cases e : v = (M k).v
    · subst e; exact absurd d hg
    · rw [e2 v e] at c; exact h.st1 v a b c d
  · by_cases e : v = (M k).v
    · subst e; omega
    · rw [e2 v e]; exact h.f v a b
  · obtain ⟨x, y⟩ := h.pd j hj
    refine ⟨x, fun v a b c => ?_⟩
    by_cases e : v = (M k).v
    · subst e; exact e1
    · rw [e2 v e]; exact y v a b c
  · by_cases e : v = (M k).v
    · subst e
      have : (M k).part = j := by
        rcases Int.lt_trichotomy (M k).part j with x | x | x
        · exact absurd rfl (pt_ne G.per vin c (by omega))
        · exact x
        · exact absurd rfl (pt_ne G.per vin c (by omega))
      omega
    · rw [e2 v e]; exact h.un j v a b c d
  · obtain ⟨i, hi, p, ep⟩ := h.ow j a2 b2 c
    refine ⟨i, hi, ?_⟩
    by_cases e : i = k
    · subst e; rw [fset_same]; exact ⟨hpc, ep⟩
    · rw [fset_other _ e]; exact ⟨p, ep⟩
  · by_cases e : i = k
    · subst e; rw [fset_same]
      exact mi.next G.n0 G.per a b (Int.le_refl _) rfl e1 e2 ⟨rfl, rfl, rfl⟩
    · rw [fset_other _ e]; exact hmi i hi e
  · have key : ∀ i, 3 ≤ (fset M k (wgo (wq (M k)) ((M k).v + 1)) i).pc → 3 ≤ (M i).pc ∧ (fset M k (wgo (wq (M k)) ((M k).v + 1)) i).part = (M i).part := fun i hi => by
      by_cases e : i = k
      · subst e; rw [fset_same]; exact ⟨a, rfl⟩
      · rw [fset_other _ e] at hi ⊢; exact ⟨hi, rfl⟩
    obtain ⟨x1, x2⟩ := key i a2
    obtain ⟨y1, y2⟩ := key j b2
    rw [x2, y2]; exact h.ds i j hi hj hne x1 y1
  · by_cases e : v = (M k).v
    · subst e; exact absurd c hg
    · rw [e2 v e]
theorem SWQ.step3 (h : SWQ K n g cy L0 L T F PD M) (hk : k < K) (hp : (M k).pc = 3) : SteppedQ K n g cy L0 L T F PD M k (wstp g L (M k)).1 (wstp g L (M k)).2 := by
  have G := h.gw
  have mi := h.mi k hk
  obtain ⟨v1, v2, vin⟩ := mi.node G.n0 G.per (by omega) (by omega)
  have f0 := mi.f0 (by omega) (by omega)
  have e0 : ldq L (g.st (M k).v) = L0.getD (g.st (M k).v).toNat 0 := by rw [ld_in ⟨(G.s _ v1 v2).1, (G.s _ v1 v2).2.1⟩]; exact h.st0 _ v1 v2 (.inl f0)
  by_cases h1 : L0.getD (g.st (M k).v).toNat 0 = 1
  · have es : wstp g L (M k) = (L, { wq (M k) with pc := 4 }) := by
      unfold wstp; rw [if_neg (by omega), if_neg (by omega), if_pos hp, e0, if_pos h1]
    rw [es]
    refine h.stepTurn hk ⟨mi.cyc, by simp, fun e => by simp at e, fun _ => mi.pt (by omega), fun _ _ => mi.p6 (by omega) (by omega), fun _ _ => f0, fun _ => h1, fun e => by simp at e, fun e => by simp at e, fun e => by simp at e⟩ ⟨fun _ => by simp, fun _ => by omega⟩ (fun _ => rfl) ⟨rfl, rfl⟩ (fun _ => ?_) (fun e => by omega)
    unfold wdl; rw [if_pos hp]; simp [wq]; omega
  · have es : wstp g L (M k) = (L, wgo (wq (M k)) ((M k).v + 1)) := by
      unfold wstp; rw [if_neg (by omega), if_neg (by omega), if_pos hp, e0, if_neg h1]
    rw [es]
    exact h.skip hk (.inl hp) fun e => h1 e.1
theorem SWQ.step4 (h : SWQ K n g cy L0 L T F PD M) (hk : k < K) (hp : (M k).pc = 4) : SteppedQ K n g cy L0 L T F PD M k (wstp g L (M k)).1 (wstp g L (M k)).2 := by
  have G := h.gw
  have mi := h.mi k hk
  obtain ⟨v1, v2, vin⟩ := mi.node G.n0 G.per (by omega) (by omega)
  have f0 := mi.f0 (by omega) (by omega)
  have e0 : ldq L (g.ma (M k).v) = L0.getD (g.ma (M k).v).toNat 0 := by rw [ld_in ⟨(G.m _ v1 v2).1, (G.m _ v1 v2).2.1⟩]; exact h.ma _ v1 v2
  by_cases h1 : L0.getD (g.ma (M k).v).toNat 0 < cy
  · have es : wstp g L (M k) = (L, { wq (M k) with pc := 5 }) := by
      unfold wstp; rw [if_neg (by omega), if_neg (by omega), if_neg (by omega), if_pos hp, e0, mi.cyc, if_pos h1]
    rw [es]
    refine h.stepTurn hk ⟨mi.cyc, by simp, fun e => by simp at e, fun _ => mi.pt (by omega), fun _ _ => mi.p6 (by omega) (by omega), fun _ _ => f0, fun e => by simp at e, fun _ => ⟨mi.p4 hp, h1⟩, fun e => by simp at e, fun e => by simp at e⟩ ⟨fun _ => by simp, fun _ => by omega⟩ (fun _ => rfl) ⟨rfl, rfl⟩ (fun _ => ?_) (fun e => by omega)
    have e3 : wdl g L (M k) = 6 * ((M k).last - (M k).v) + 6 := by unfold wdl; rw [if_neg (by omega), if_pos hp]
    have e4 : wdl g L { wq (M k) with pc := 5 } = 6 * ((M k).last - (M k).v) + 5 := by simp [wdl, wq]
    exact (show wdl g L { wq (M k) with pc := 5 } + 1 ≤ wdl g L (M k) by rw [e4, e3]; omega)
  · have es : wstp g L (M k) = (L, wgo (wq (M k)) ((M k).v + 1)) := by
      unfold wstp; rw [if_neg (by omega), if_neg (by omega), if_neg (by omega), if_pos hp, e0, mi.cyc, if_neg h1]
    rw [es]
    exact h.skip hk (.inr hp) fun e => h1 e.2
theorem SWQ.step5 (h : SWQ K n g cy L0 L T F PD M) (hk : k < K) (hp : (M k).pc = 5) : SteppedQ K n g cy L0 L T F PD M k (wstp g L (M k)).1 (wstp g L (M k)).2 := by
  have G := h.gw
  have mi := h.mi k hk
  have h9 := G.n9
  obtain ⟨v1, v2, vin⟩ := mi.node G.n0 G.per (by omega) (by omega)
  have f0 := mi.f0 (by omega) (by omega)
  have hg := mi.p5 hp
  obtain ⟨hpt, hpd, hlast, hvr, hu⟩ := mi.pt (by omega)
  have gs := G.s _ v1 v2
  obtain ⟨m', hm'⟩ : ∃ m', m' = { M k with ek := 5, ea := (M k).v, x := mPush (g.hk (g.cl (M k).v)) (M k).v, pc := 6 } := ⟨_, rfl⟩
  have es : wstp g L (M k) = (ptq L (g.st (M k).v) 0, m') := by
    unfold wstp; rw [if_neg (by omega), if_neg (by omega), if_neg (by omega), if_neg (by omega), if_pos hp, hm']
  rw [es]
  obtain ⟨F', hF'⟩ : ∃ F', F' = iset F (M k).v 1 := ⟨_, rfl⟩
  have e1 : F' (M k).v = 1 := by rw [hF']; exact iset_same ..
  have e2 : ∀ u, u ≠ (M k).v → F' u = F u := fun u hu => by rw [hF']; exact iset_other _ hu
  have hle : wleft n F' = wleft n F := wleft_same fun u => by
    by_cases e : u = (M k).v
    · subst e; omega
    · rw [e2 u e]
  have w1 : ∀ d, d < 5 → (g.hk d).head ≠ g.st (M k).v := fun d hd => ((G.h d hd).2.2 _ v1 v2).1
  have w2 : ∀ (d : Nat) (x : Int), d < 5 → 1 ≤ x → x ≤ n → atOf (g.hk d).links x ≠ g.st (M k).v := fun d x hd a b => ((G.l d x hd a b).2.2 _ v1 v2).1
  have hmi : ∀ i, i < K → i ≠ k → MJ n g cy L0 (ptq L (g.st (M k).v) 0) T F' PD (M i) := fun i hi hne =>
    (h.mi i hi).mono (Int.le_refl _) (fun u a2 _ _ hu => e2 u (h.oth hk (by omega) (by omega) hi hne a2 hu)) (fun _ => rfl) (fun a b => (h.mi i hi).node G.n0 G.per a b)
  refine ⟨T, F', PD, ⟨by rw [pt_len]; exact G, by rw [pt_len]; exact h.len, by rw [pt_other G.sw.1 gs.2.2.1.symm]; exact h.sw, h.t, fun v a b => ?_, fun v a b c => ?_, fun v a b c d => ?_, fun v a b => ?_, fun j hj => ?_, fun j v a b c d => ?_, fun j a2 b2 c => ?_, fun i hi => ?_, fun i j hi hj hne a2 b2 => ?_, ?_⟩, ?_, .inl rfl, fun _ => ?_, by omega, fun i hi hne => by have := (h.mi i hi).hds (L' := ptq L (g.st (M k).v) 0) G.n0 G.per G.cl (fun d hd => pt_other (G.k d hd).hd.1 (w1 d hd)); dsimp only; omega, fun e => by omega, fun _ _ => .inl (by rw [hm']; simp), fun u e => ⟨by omega, by rcases Decidable.em (u = (M k).v) with y | y; exact y ▸ vin; exact absurd (e2 u y) e⟩⟩
  · rw [pt_other (G.m v a b).1 (fun e => G.sm _ _ v1 v2 a b e.symm)]; exact h.ma v a b
  · by_cases e : v = (M k).v
    · subst e
      rcases c with c | c
      · omega
      · exact absurd hg c
    · rw [e2 v e] at c
      rw [pt_other (G.s v a b).1 (fun e3 => e (G.si _ _ a b v1 v2 e3))]; exact h.st0 v a b c
  · by_cases e : v = (M k).v
    · subst e; exact pt_same ⟨gs.1, gs.2.1⟩
    · rw [e2 v e] at c
      rw [pt_other (G.s v a b).1 (fun e3 => e (G.si _ _ a b v1 v2 e3))]; exact h.st1 v a b c d
  · by_cases e : v = (M k).v
    · subst e; omega
    · rw [e2 v e]; exact h.f v a b
  · obtain ⟨x, y⟩ := h.pd j hj
    refine ⟨x, fun v a b c => ?_⟩
    by_cases e : v = (M k).v
    · subst e; have := y _ a b c; omega
    · rw [e2 v e]; exact y v a b c
  · by_cases e : v = (M k).v
    · subst e
      have : (M k).part = j := by
        rcases Int.lt_trichotomy (M k).part j with x | x | x
        · exact absurd rfl (pt_ne G.per vin c (by omega))
        · exact x
        · exact absurd rfl (pt_ne G.per vin c (by omega))
      omega
    · rw [e2 v e]; exact h.un j v a b c d
  · obtain ⟨i, hi, p, ep⟩ := h.ow j a2 b2 c
    refine ⟨i, hi, ?_⟩
    by_cases e : i = k
    · subst e; rw [fset_same, hm']; exact ⟨by simp, ep⟩
    · rw [fset_other _ e]; exact ⟨p, ep⟩
  · by_cases e : i = k
    · subst e; rw [fset_same]
      have hc := G.cl _ v1 v2
      rw [hm']
      refine ⟨mi.cyc, by simp, fun e => by simp at e, fun _ => ⟨hpt, hpd, hlast, hvr, fun u u1 u2 u3 => ⟨fun hlt => ?_, fun hlt => ?_⟩⟩, fun _ _ => mi.p6 (by omega) (by omega), fun _ e => by simp at e, fun e => by simp at e, fun e => by simp at e, fun _ => ⟨e1, hg, ⟨rfl, rfl, item_v _ v1 (by omega)⟩, by simp [mPush], by simp [mPush]⟩, fun e => by simp at e⟩
      · dsimp only at hlt; rw [e2 u (by omega)]; exact (hu u u1 u2 u3).1 hlt
      · dsimp only at hlt; rw [e2 u (by omega)]; exact (hu u u1 u2 u3).2 hlt
    · rw [fset_other _ e]; exact hmi i hi e
  · have key : ∀ i, 3 ≤ (fset M k m' i).pc → 3 ≤ (M i).pc ∧ (fset M k m' i).part = (M i).part := fun i hi => by
      by_cases e : i = k
      · subst e; rw [fset_same, hm']; exact ⟨by omega, rfl⟩
      · rw [fset_other _ e] at hi ⊢; exact ⟨hi, rfl⟩
    obtain ⟨x1, x2⟩ := key i a2
    obtain ⟨y1, y2⟩ := key j b2
    rw [x2, y2]; exact h.ds i j hi hj hne x1 y1
  · rw [pt_other G.dn.1 gs.2.2.2.symm]; exact h.dn
  · rw [hm']; exact .free _ ⟨v1, v2⟩ f0 hg hF' rfl
  · have e3 : wdl g L (M k) = 6 * ((M k).last - (M k).v) + 5 := by unfold wdl; rw [if_neg (by omega), if_neg (by omega), if_pos hp]
    have e4 : wdl g (ptq L (g.st (M k).v) 0) m' = 6 * ((M k).last - (M k).v) + 3 + 1 := by rw [hm']; simp [wdl, dueL, mPush]
    dsimp only
    omega
theorem SWQ.step6 (h : SWQ K n g cy L0 L T F PD M) (hk : k < K) (hp : (M k).pc = 6) : SteppedQ K n g cy L0 L T F PD M k (wstp g L (M k)).1 (wstp g L (M k)).2 := by
  have G := h.gw
  have mi := h.mi k hk
  have a : 3 ≤ (M k).pc := by omega
  have b : (M k).pc ≤ 6 := by omega
  obtain ⟨v1, v2, vin⟩ := mi.node G.n0 G.per a b
  have h6 := mi.p6 a b
  obtain ⟨f1, hg, ⟨xk, xkk, xi⟩, x1, x3⟩ := mi.x6 hp
  obtain ⟨hpt, hpd, hlast, hvr, hu⟩ := mi.pt a
  have hc := G.cl _ v1 v2
  have gk := G.k _ hc
  have es : wstp g L (M k) = ((sstp L (M k).x).1, if (sstp L (M k).x).2.pc = 0 then wgo { wq (M k) with x := (sstp L (M k).x).2 } ((M k).v + 1) else { wq (M k) with x := (sstp L (M k).x).2 }) := by
    unfold wstp; rw [if_neg (by omega), if_neg (by omega), if_neg (by omega), if_neg (by omega), if_neg (by omega), if_pos hp]
  have ek3 : ∀ l, wdl g l (M k) = 6 * ((M k).last - (M k).v) + dueL l (M k).x + 1 := fun l => by unfold wdl; rw [if_neg (by omega), if_neg (by omega), if_neg (by omega), if_pos hp]
  have ek4 : ∀ l x', wdl g l { wq (M k) with x := x' } = 6 * ((M k).last - (M k).v) + dueL l x' + 1 := fun l x' => by unfold wdl; simp [wq, hp]
  have key : ∀ x' : Sm, XPu (g.hk (g.cl (M k).v)) (M k).v x' → MJ n g cy L0 L T F PD { wq (M k) with x := x' } := fun x' hx =>
    ⟨mi.cyc, mi.pc, fun e => absurd (show (M k).pc = 2 from e) (by omega), fun _ => mi.pt a, fun _ _ => h6, fun _ e => absurd (show (M k).pc ≤ 5 from e) (by omega), fun e => absurd (show (M k).pc = 4 from e) (by omega), fun e => absurd (show (M k).pc = 5 from e) (by omega), fun _ => ⟨f1, hg, hx⟩, fun e => absurd (show (M k).pc = 7 from e) (by omega)⟩
  rw [es]
  have hx123 : (M k).x.pc = 1 ∨ (M k).x.pc = 2 ∨ (M k).x.pc = 3 := by omega
  rcases hx123 with p | p | p
  · obtain ⟨x', ex, y1, y2, y3, y4, y5⟩ := push_1 (L := L) xk p
    rw [ex]
    dsimp only
    rw [if_neg (by omega)]
    refine h.stepTurn hk (key x' ⟨⟨y1, y2.trans xkk, y3.trans xi⟩, by omega, by omega⟩) Iff.rfl (fun _ => rfl) ⟨rfl, rfl⟩ (fun _ => ?_) (fun e => by omega)
    rw [ek3, ek4]
    have d1 := dueL_1 (L := L) p
    have d2 : dueL L x' = 4 - x'.pc := dueL_yes (by omega) (by rw [y5, y2, ld_in (by rw [xkk]; exact gk.hd)])
    omega
  · obtain ⟨x', u, ex, y1, y2, y3, y4, y5⟩ := push_2 (L := L) xk p
    rw [xkk, xi] at ex
    rw [ex]
    dsimp only
    rw [if_neg (by omega)]
    have gl := G.l _ _ hc v1 v2
    have hh : ∀ d, d < 5 → (ptq L (atOf (g.hk (g.cl (M k).v)).links (M k).v) u).getD (g.hk d).head.toNat 0 = L.getD (g.hk d).head.toNat 0 := fun d hd => pt_other (G.k d hd).hd.1 (fun e => G.hl _ d _ hc hd v1 v2 e.symm)
    have hm2 := key x' ⟨⟨y1, y2.trans xkk, y3.trans xi⟩, by omega, by omega⟩
    have S1 := h.turn hk hm2 Iff.rfl (fun _ => rfl)
    refine ⟨T, F, PD, ⟨by rw [pt_len]; exact G, by rw [pt_len]; exact h.len, by rw [pt_other G.sw.1 gl.1.symm]; exact h.sw, h.t, fun v a b => by rw [pt_other (G.m v a b).1 (gl.2.2 v a b).2.symm]; exact h.ma v a b, fun v a b c => by rw [pt_other (G.s v a b).1 (gl.2.2 v a b).1.symm]; exact h.st0 v a b c, fun v a b c d => by rw [pt_other (G.s v a b).1 (gl.2.2 v a b).1.symm]; exact h.st1 v a b c d, h.f, h.pd, h.un, S1.ow, fun i hi => ?_, S1.ds, by rw [pt_other G.dn.1 gl.2.1.symm]; exact h.dn⟩, .none rfl fun v _ _ _ => Iff.rfl, .inl rfl, fun _ => ?_, Int.le_refl _, fun i hi hne => by have := (h.mi i hi).hds G.n0 G.per G.cl hh; omega, fun e => by omega, fun _ _ => .inl (show 3 ≤ (M k).pc from a), fun u e => absurd rfl e⟩
    · exact (S1.mi i hi).mono (Int.le_refl _) (fun u _ _ _ _ => rfl) (fun _ => rfl) (fun a b => (S1.mi i hi).node G.n0 G.per a b)
    · rw [ek3, ek4]
      have hh2 := hh _ hc
      have y2' := y2.trans xkk
      by_cases e : L.getD (M k).x.k.head.toNat 0 = (M k).x.h
      · have d1 := dueL_yes (L := L) (x := (M k).x) (by omega) e
        have d2 := dueL_yes (L := ptq L (atOf (g.hk (g.cl (M k).v)).links (M k).v) u) (x := x') (by omega) (by rw [y2', hh2, y5, ← xkk]; exact e)
        omega
      · have d1 := dueL_no (L := L) (x := (M k).x) (by omega) e
        have d2 := dueL_no (L := ptq L (atOf (g.hk (g.cl (M k).v)).links (M k).v) u) (x := x') (by omega) (by rw [y2', hh2, y5, ← xkk]; exact e)
        omega
  · rcases push_3 (L := L) xk p (by rw [xkk]; exact gk.hd) with ⟨hsw, x', u, ex, y4⟩ | ⟨hsw, x', ex, y1, y2, y3, y4⟩
    · rw [xkk] at ex
      rw [ex]
      dsimp only
      rw [if_pos y4]
      obtain ⟨F', hF'⟩ : ∃ F', F' = iset F (M k).v 2 := ⟨_, rfl⟩
      have e1 : F' (M k).v = 2 := by rw [hF']; exact iset_same ..
      have e2 : ∀ u, u ≠ (M k).v → F' u = F u := fun u hu => by rw [hF']; exact iset_other _ hu
      have hle := wleft_done v1 v2 (show F (M k).v ≠ 2 by omega) e1 e2
      obtain ⟨L', hL'⟩ : ∃ L', L' = ptq L (g.hk (g.cl (M k).v)).head u := ⟨_, rfl⟩
      rw [← hL']
      obtain ⟨m', hm'⟩ : ∃ m', m' = wgo { wq (M k) with x := x' } ((M k).v + 1) := ⟨_, rfl⟩
      rw [← hm']
      have hpc : 3 ≤ m'.pc := by rw [hm']; unfold wgo; dsimp only; split <;> omega
      have hpart : m'.part = (M k).part := by rw [hm']; rfl
      have hev : m'.ek = 0 ∧ m'.ea = 0 := by rw [hm']; exact ⟨rfl, rfl⟩
      have gh := G.h _ hc
      have hdu : wdl g L' m' + 1 ≤ wdl g L (M k) := by
        have := wdl_go (g := g) (L := L') (m := M k) (m' := { wq (M k) with x := x' }) h6 rfl
        have d1 := dueL_yes (L := L) (x := (M k).x) (by omega) hsw
        rw [hm', ek3]; omega
      have hmi : ∀ i, i < K → i ≠ k → MJ n g cy L0 L' T F' PD (M i) := fun i hi hne =>
        (h.mi i hi).mono (Int.le_refl _) (fun u a2 _ _ hu => e2 u (h.oth hk a b hi hne a2 hu)) (fun _ => rfl) (fun a b => (h.mi i hi).node G.n0 G.per a b)
      have swl : L'.getD g.sw.toNat 0 = L.getD g.sw.toNat 0 := by rw [hL']; exact pt_other G.sw.1 gh.1.symm
      have dnl : L'.getD g.dn.toNat 0 = L.getD g.dn.toNat 0 := by rw [hL']; exact pt_other G.dn.1 gh.2.1.symm
      have stl : ∀ u : Int, 1 ≤ u → u ≤ n → L'.getD (g.st u).toNat 0 = L.getD (g.st u).toNat 0 := fun u a b => by rw [hL']; exact pt_other (G.s u a b).1 (gh.2.2 u a b).1.symm
      have mal : ∀ u : Int, 1 ≤ u → u ≤ n → L'.getD (g.ma u).toNat 0 = L.getD (g.ma u).toNat 0 := fun u a b => by rw [hL']; exact pt_other (G.m u a b).1 (gh.2.2 u a b).2.symm
      have hlen : L'.length = L.length := by rw [hL', pt_len]
      refine ⟨T, F', PD, ⟨by rw [hlen]; exact G, by rw [hlen]; exact h.len, by rw [swl]; exact h.sw, h.t, fun v a b => by rw [mal v a b]; exact h.ma v a b, fun v a b c => ?_, fun v a b c d => ?_, fun v a b => ?_, fun j hj => ?_, fun j v a b c d => ?_, fun j a2 b2 c => ?_, fun i hi => ?_, fun i j hi hj hne a2 b2 => ?_, by rw [dnl]; exact h.dn⟩, ?_, .inl rfl, fun _ => hdu, by omega, fun i hi hne => by have := (h.mi i hi).hd1 (L' := L'); omega, fun e => by omega, fun _ _ => .inl hpc, fun u e => ⟨by omega, by rcases Decidable.em (u = (M k).v) with y | y; exact y ▸ vin; exact absurd (e2 u y) e⟩⟩
      · rw [stl v a b]
        by_cases e : v = (M k).v
        · subst e
          rcases c with c | c
          · omega
          · exact absurd hg c
        · rw [e2 v e] at c; exact h.st0 v a b c
      · rw [stl v a b]
        by_cases e : v = (M k).v
        · subst e; exact h.st1 _ a b (by omega) d
        · rw [e2 v e] at c; exact h.st1 v a b c d
      · by_cases e : v = (M k).v
        · subst e; omega
        · rw [e2 v e]; exact h.f v a b
      · obtain ⟨x, y⟩ := h.pd j hj
        refine ⟨x, fun v a b c => ?_⟩
        by_cases e : v = (M k).v
        · subst e; exact e1
        · rw [e2 v e]; exact y v a b c
      · by_cases e : v = (M k).v
        · subst e
          have : (M k).part = j := by
            rcases Int.lt_trichotomy (M k).part j with x | x | x
            · exact absurd rfl (pt_ne G.per vin c (by omega))
            · exact x
            · exact absurd rfl (pt_ne G.per vin c (by omega))
          omega
        · rw [e2 v e]; exact h.un j v a b c d
      · obtain ⟨i, hi, p, ep⟩ := h.ow j a2 b2 c
        refine ⟨i, hi, ?_⟩
        by_cases e : i = k
        · subst e; rw [fset_same]; exact ⟨hpc, by rw [hpart]; exact ep⟩
        · rw [fset_other _ e]; exact ⟨p, ep⟩
      · by_cases e : i = k
        · subst e; rw [fset_same, hm']
          exact mi.next G.n0 G.per a b (Int.le_refl _) rfl e1 e2 ⟨rfl, rfl, rfl⟩
        · rw [fset_other _ e]; exact hmi i hi e
      · have keyd : ∀ i, 3 ≤ (fset M k m' i).pc → 3 ≤ (M i).pc ∧ (fset M k m' i).part = (M i).part := fun i hi => by
          by_cases e : i = k
          · subst e; rw [fset_same]; exact ⟨a, hpart⟩
          · rw [fset_other _ e] at hi ⊢; exact ⟨hi, rfl⟩
        obtain ⟨x1, x2⟩ := keyd i a2
        obtain ⟨y1, y2⟩ := keyd j b2
        rw [x2, y2]; exact h.ds i j hi hj hne x1 y1
      · rw [hev.1, hev.2]
        refine .none rfl fun v a b c => ?_
        by_cases e : v = (M k).v
        · subst e; omega
        · rw [e2 v e]
    · rw [ex]
      dsimp only
      rw [if_neg (by omega)]
      refine h.stepTurn hk (key x' ⟨⟨y1, y2.trans xkk, y3.trans xi⟩, by omega, by omega⟩) Iff.rfl (fun _ => rfl) ⟨rfl, rfl⟩ (fun _ => ?_) (fun e => by omega)
      rw [ek3, ek4]
      have d1 := dueL_no (L := L) (x := (M k).x) (by omega) hsw
      have d2 := dueL_1 (L := L) y4
      omega
theorem SWQ.step7 (h : SWQ K n g cy L0 L T F PD M) (hk : k < K) (hp : (M k).pc = 7) : SteppedQ K n g cy L0 L T F PD M k (wstp g L (M k)).1 (wstp g L (M k)).2 := by
  have G := h.gw
  have mi := h.mi k hk
  obtain ⟨hpt, hpd, hlast, hvr, hu⟩ := mi.pt (by omega)
  have p7 := mi.p7 hp
  have hT := h.t
  obtain ⟨m', hm'⟩ : ∃ m', m' = { M k with ek := 6, ea := (M k).part, pc := 0 } := ⟨_, rfl⟩
  have e0 : ldq L g.dn = L.getD g.dn.toNat 0 := ld_in G.dn
  have es : wstp g L (M k) = (ptq L g.dn (L.getD g.dn.toNat 0 + 1), m') := by
    have hdn := h.dn
    have hP := parts_pos G
    have hle := List.countP_le_length (p := fun (j : Nat) => PD (j : Int)) (l := List.range g.parts.toNat)
    have h9 := G.n9
    rw [List.length_range] at hle
    have ew : (L.getD g.dn.toNat 0 + 1) % 18446744073709551616 = L.getD g.dn.toNat 0 + 1 := Int.emod_eq_of_lt (by omega) (by omega)
    unfold wstp; rw [if_neg (by omega), if_neg (by omega), if_neg (by omega), if_neg (by omega), if_neg (by omega), if_neg (by omega), if_pos hp, e0, hm', ew]
  rw [es]
  obtain ⟨PD', hPD⟩ : ∃ PD', PD' = iset PD (M k).part true := ⟨_, rfl⟩
  have e1 : PD' (M k).part = true := by rw [hPD]; exact iset_same ..
  have e2 : ∀ j, j ≠ (M k).part → PD' j = PD j := fun j hj => by rw [hPD]; exact iset_other _ hj
  have w1 : ∀ d, d < 5 → (g.hk d).head ≠ g.dn := fun d hd => (G.h d hd).2.1
  have w2 : ∀ (d : Nat) (x : Int), d < 5 → 1 ≤ x → x ≤ n → atOf (g.hk d).links x ≠ g.dn := fun d x hd a b => (G.l d x hd a b).2.1
  have hcnt := cnt_upd (fun (j : Nat) => !PD (j : Int)) (fun (j : Nat) => !PD' (j : Int)) (M k).part.toNat (by simp [show (((M k).part.toNat : Nat) : Int) = (M k).part by omega, hpd]) (by simp [show (((M k).part.toNat : Nat) : Int) = (M k).part by omega, e1]) (fun j hj => by show (!PD' (j : Int)) = !PD (j : Int); rw [e2 _ (by omega)]) g.parts.toNat (by omega)
  have hmi : ∀ i, i < K → i ≠ k → MJ n g cy L0 (ptq L g.dn (L.getD g.dn.toNat 0 + 1)) T F PD' (M i) := fun i hi hne =>
    (h.mi i hi).mono (Int.le_refl _) (fun u _ _ _ _ => rfl) (fun ai => e2 _ (h.ds i k hi hk hne ai (by omega))) (fun a b => (h.mi i hi).node G.n0 G.per a b)
  refine ⟨T, F, PD', ⟨by rw [pt_len]; exact G, by rw [pt_len]; exact h.len, by rw [pt_other G.sw.1 G.sd]; exact h.sw, hT, fun v a b => by rw [pt_other (G.m v a b).1 (G.m v a b).2.2.2]; exact h.ma v a b, fun v a b c => by rw [pt_other (G.s v a b).1 (G.s v a b).2.2.2]; exact h.st0 v a b c, fun v a b c d => by rw [pt_other (G.s v a b).1 (G.s v a b).2.2.2]; exact h.st1 v a b c d, h.f, fun j hj => ?_, h.un, fun j a2 b2 c => ?_, fun i hi => ?_, fun i j hi hj hne a2 b2 => ?_, ?_⟩, ?_, .inl rfl, fun _ => ?_, Int.le_refl _, fun i hi hne => by have := (h.mi i hi).hds (L' := ptq L g.dn (L.getD g.dn.toNat 0 + 1)) G.n0 G.per G.cl (fun d hd => pt_other (G.k d hd).hd.1 (w1 d hd)); dsimp only; omega, fun e => by omega, fun _ _ => .inr (by rw [hm']), fun u e => absurd rfl e⟩
  · by_cases e : j = (M k).part
    · subst e
      refine ⟨hpt, fun v a b c => (hu v a b c).1 ?_⟩
      have h2 := c.2
      have hn := G.n0
      have hl : v ≤ (M k).last := by rw [hlast]; unfold wmin; split <;> omega
      omega
    · rw [e2 j e] at hj; exact h.pd j hj
  · by_cases e : j = (M k).part
    · subst e; rw [e1] at c; cases c
    · rw [e2 j e] at c
      obtain ⟨i, hi, p, ep⟩ := h.ow j a2 b2 c
      refine ⟨i, hi, ?_⟩
      rw [fset_other _ (fun e3 => by subst e3; exact e ep.symm)]; exact ⟨p, ep⟩
  · by_cases e : i = k
    · subst e; rw [fset_same, hm']
      exact ⟨mi.cyc, by simp, fun e => by simp at e, fun e => by simp at e, fun e => by simp at e, fun e => by simp at e, fun e => by simp at e, fun e => by simp at e, fun e => by simp at e, fun e => by simp at e⟩
    · rw [fset_other _ e]; exact hmi i hi e
  · have key : ∀ i, 3 ≤ (fset M k m' i).pc → 3 ≤ (M i).pc ∧ fset M k m' i = M i := fun i hi => by
      by_cases e : i = k
      · subst e; rw [fset_same, hm'] at hi; simp at hi
      · rw [fset_other _ e] at hi ⊢; exact ⟨hi, rfl⟩
    obtain ⟨x1, x2⟩ := key i a2
    obtain ⟨y1, y2⟩ := key j b2
    rw [x2, y2]; exact h.ds i j hi hj hne x1 y1
  · rw [pt_same G.dn, h.dn]
    have a1 := cnt_neg (fun (j : Nat) => PD (j : Int)) g.parts.toNat
    have a2 := cnt_neg (fun (j : Nat) => PD' (j : Int)) g.parts.toNat
    omega
  · have hlt : (M k).part < g.parts := by omega
    rw [hm']; exact .part (M k).part ⟨hpt.1, hlt⟩ hpd hPD rfl
  · have e3 : wdl g L (M k) = 1 := by unfold wdl; rw [if_neg (by omega), if_neg (by omega), if_neg (by omega), if_neg (by omega), if_pos hp]
    have e4 : wdl g (ptq L g.dn (L.getD g.dn.toNat 0 + 1)) m' = 0 := by rw [hm']; simp [wdl]
    dsimp only
    omega
theorem SWQ.step (h : SWQ K n g cy L0 L T F PD M) (hk : k < K) : SteppedQ K n g cy L0 L T F PD M k (wstp g L (M k)).1 (wstp g L (M k)).2 := by
  have hpc := (h.mi k hk).pc
  have : (M k).pc = 0 ∨ (M k).pc = 1 ∨ (M k).pc = 2 ∨ (M k).pc = 3 ∨ (M k).pc = 4 ∨ (M k).pc = 5 ∨ (M k).pc = 6 ∨ (M k).pc = 7 := by omega
  rcases this with e | e | e | e | e | e | e | e
  · exact h.step0 hk e
  · exact h.step1 hk e
  · exact h.step2 hk e
  · exact h.step3 hk e
  · exact h.step4 hk e
  · exact h.step5 hk e
  · exact h.step6 hk e
  · exact h.step7 hk e
end
end Go.Proofs.YthoiaffeenhfgaaGreat
