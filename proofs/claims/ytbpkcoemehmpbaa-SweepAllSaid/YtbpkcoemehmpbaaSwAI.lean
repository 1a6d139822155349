/- Three that sweep, step by step, with what was told; how all stands in the end. -/
import Derived.Test.YtbpkcoemehmpbaaSwMm
namespace Go.Proofs.Ytbpkcoemehmpbaa
set_option linter.unusedVariables false
set_option linter.unusedSimpArgs false
open Lay (plcc nodesN OkC Cfg lenL shOf partsC)

/-- How all stands behind i steps, of which p may be anyone's; pf: how often a part was told, ff: a node. -/
structure AI (c : Cfg) (cy : Int) (L0 L : List Int) (M : Nat → Wn) (p i : Nat) (pf ff : Nat → Int) : Prop where
  ex : ∃ T F PD Ts Qs, SI (nodn c) (wOf c) cy L0 L T F PD Ts Qs M ∧ WPG (nodn c) (wOf c) cy T F Ts M p i ∧
    (∀ v : Nat, 1 ≤ v → v ≤ nodn c → (F v ≠ 0 ∧ Gone (wOf c) L0 cy v → ff v = 1) ∧ (¬ (F v ≠ 0 ∧ Gone (wOf c) L0 cy v) → ff v = 0)) ∧
    (∀ j : Nat, (j : Int) < (wOf c).parts → (PD j = true → pf j = 1) ∧ (PD j = false → pf j = 0))
  pc : ∀ k, k < 3 → (M k).pc ≠ 0
theorem AI.start {c : Cfg} (hc : OkC c) {cy : Int} {L : List Int} (h : Fil c cy L) (hn : nodn c ≤ 12) (hk : ∀ k : Nat, k < 5 → L.getD (plcc c 7 k 0).toNat 0 = 0) (p : Nat) : AI c cy L L (fun _ => wNew cy) p 0 (fun _ => 0) (fun _ => 0) := by
  have G := gw_is hc h.len
  refine ⟨⟨0, fun _ => 0, fun _ => false, fun _ => 0, fun _ => [], SI.begin G h.sw h.dn hk, wpg_begin G hn p, fun v _ _ => ⟨fun e => absurd rfl e.1, fun _ => rfl⟩, fun j _ => ⟨(fun e => by cases e), fun _ => rfl⟩⟩, fun k _ => by simp [wNew]⟩
section
variable {c : Cfg} {cy : Int} {L0 L : List Int} {M : Nat → Wn} {p i k : Nat} {pf ff : Nat → Int}
/-- Behind a step, and a new one where it ended. -/
theorem AI.go (h : AI c cy L0 L M p i pf ff) (hk : k < 3) (hn : nodn c ≤ 12) (ht : p ≤ i → k = i % 3) :
    ((wstp (wOf c) L (M k)).2.ek = 5 ∧ ∃ v : Nat, (wstp (wOf c) L (M k)).2.ea = (v : Int) ∧ 1 ≤ v ∧ v ≤ nodn c ∧ ff v = 0 ∧ AI c cy L0 (wstp (wOf c) L (M k)).1 (fset M k (wre (wstp (wOf c) L (M k)).2)) p (i + 1) pf (fset ff v 1)) ∨
    ((wstp (wOf c) L (M k)).2.ek = 6 ∧ ∃ j : Nat, (wstp (wOf c) L (M k)).2.ea = (j : Int) ∧ (j : Int) < (wOf c).parts ∧ pf j = 0 ∧ AI c cy L0 (wstp (wOf c) L (M k)).1 (fset M k (wre (wstp (wOf c) L (M k)).2)) p (i + 1) (fset pf j 1) ff) ∨
    ((wstp (wOf c) L (M k)).2.ek = 0 ∧ AI c cy L0 (wstp (wOf c) L (M k)).1 (fset M k (wre (wstp (wOf c) L (M k)).2)) p (i + 1) pf ff) := by
  obtain ⟨⟨T, F, PD, Ts, Qs, S, G, hf, hp⟩, hpc⟩ := h
  obtain ⟨T', F', PD', Ts', Qs', S', ev, G'⟩ := S.go hk (hpc k hk) hn G ht
  have hpc' : ∀ j, j < 3 → (fset M k (wre (wstp (wOf c) L (M k)).2) j).pc ≠ 0 := fun j hj => by
    by_cases e : j = k
    · subst e; rw [fset_same]; unfold wre; split
      · simp [wNew]
      · assumption
    · rw [fset_other _ e]; exact hpc j hj
  have S2 : SI (nodn c) (wOf c) cy L0 (wstp (wOf c) L (M k)).1 T' F' PD' Ts' Qs' (fset M k (wre (wstp (wOf c) L (M k)).2)) := S'
  have G2 : WPG (nodn c) (wOf c) cy T' F' Ts' (fset M k (wre (wstp (wOf c) L (M k)).2)) p (i + 1) := G'
  generalize (wstp (wOf c) L (M k)).1 = L' at S2 G2 ⊢
  generalize hm : (wstp (wOf c) L (M k)).2 = m' at S2 G2 hpc' ev ⊢
  generalize hek : m'.ek = ek at ev ⊢
  generalize hea : m'.ea = ea at ev ⊢
  cases ev with
  | free v h1 h2 h3 h4 h5 =>
    refine .inl ⟨rfl, ea.toNat, by omega, by omega, by omega, ?_, ⟨⟨T', F', PD', Ts', Qs', S2, G2, fun u u1 u2 => ?_, by rw [h5]; exact hp⟩, hpc'⟩⟩
    · refine (hf ea.toNat (by omega) (by omega)).2 fun e => e.1 ?_
      rw [show ((ea.toNat : Nat) : Int) = ea by omega]; exact h2
    · subst h4
      by_cases e : u = ea.toNat
      · subst e
        rw [fset_same, show ((ea.toNat : Nat) : Int) = ea by omega, iset_same]
        exact ⟨fun _ => rfl, fun hne => absurd ⟨by simp, h3⟩ hne⟩
      · rw [fset_other _ e, iset_other _ (by omega)]; exact hf u u1 u2
  | part j h1 h2 h4 h5 =>
    refine .inr (.inl ⟨rfl, ea.toNat, by omega, by omega, ?_, ⟨⟨T', F', PD', Ts', Qs', S2, G2, by rw [h5]; exact hf, fun u u1 => ?_⟩, hpc'⟩⟩)
    · refine (hp ea.toNat (by omega)).2 ?_
      rw [show ((ea.toNat : Nat) : Int) = ea by omega]; exact h2
    · subst h4
      by_cases e : u = ea.toNat
      · subst e
        rw [fset_same, show ((ea.toNat : Nat) : Int) = ea by omega, iset_same]
        exact ⟨fun _ => rfl, (fun hne => by cases hne)⟩
      · rw [fset_other _ e, iset_other _ (by omega)]; exact hp u u1
  | none h4 h5 =>
    refine .inr (.inr ⟨rfl, ⟨⟨T', F', PD', Ts', Qs', S2, G2, fun u u1 u2 => ?_, by rw [h4]; exact hp⟩, hpc'⟩⟩)
    obtain ⟨a, b⟩ := hf u u1 u2
    have key : Gone (wOf c) L0 cy u → (F' u = 0 ↔ F u = 0) := h5 u (by omega) (by omega)
    exact ⟨fun e => a ⟨fun z => e.1 ((key e.2).2 z), e.2⟩, fun e => b fun z => e ⟨fun y => z.1 ((key z.2).1 y), z.2⟩⟩
/-- What one that has ended is followed by. -/
theorem AI.cyc (h : AI c cy L0 L M p i pf ff) (hk : k < 3) : (M k).cy = cy := by
  obtain ⟨⟨T, F, PD, Ts, Qs, S, _⟩, _⟩ := h
  exact (S.mi k hk).cyc
end
/-- How all stands in the end. -/
structure AE (c : Cfg) (cy : Int) (L0 L : List Int) (Qs : Nat → List Int) (pf ff : Nat → Int) : Prop where
  len : L.length = L0.length
  p : ∀ j : Nat, (j : Int) < (wOf c).parts → pf j = 1
  f : ∀ v : Nat, 1 ≤ v → v ≤ nodn c → (Gone (wOf c) L0 cy v → ff v = 1 ∧ L.getD ((wOf c).st v).toNat 0 = 0) ∧ (¬ Gone (wOf c) L0 cy v → ff v = 0 ∧ L.getD ((wOf c).st v).toNat 0 = L0.getD ((wOf c).st v).toNat 0)
  m : ∀ v : Nat, 1 ≤ v → v ≤ nodn c → L.getD ((wOf c).ma v).toNat 0 = L0.getD ((wOf c).ma v).toNat 0
  q : ∀ k : Nat, k < 5 → walkQ L ((wOf c).hk k) 20 ((wOf c).hk k).head = Qs k ∧ (Qs k).Nodup ∧ (Qs k).length ≤ nodn c ∧ ∀ v : Int, v ∈ Qs k ↔ ((1 ≤ v ∧ v ≤ nodn c) ∧ Gone (wOf c) L0 cy v ∧ (wOf c).cl v = k)
  d : L.getD (wOf c).dn.toNat 0 = (wOf c).parts
theorem AI.over {c : Cfg} {cy : Int} {L0 L : List Int} {M : Nat → Wn} {p : Nat} {pf ff : Nat → Int} (h : AI c cy L0 L M p (p + 600) pf ff) (hn : nodn c ≤ 12) : ∃ Qs, AE c cy L0 L Qs pf ff := by
  obtain ⟨⟨T, F, PD, Ts, Qs, S, G, hf, hp⟩, hpc⟩ := h
  obtain ⟨a, b, d⟩ := S.over G
  have hP := parts_pos S.gw
  refine ⟨Qs, S.len, fun j hj => (hp j hj).1 (b j (by omega) hj), fun v v1 v2 => ⟨fun g => ⟨(hf v v1 v2).1 ⟨by rw [d v (by omega) (by omega)]; simp, g⟩, S.st1 v (by omega) (by omega) (by rw [d v (by omega) (by omega)]; simp) g⟩, fun g => ⟨(hf v v1 v2).2 fun e => g e.2, S.st0 v (by omega) (by omega) (.inr g)⟩⟩, fun v v1 v2 => S.ma v (by omega) (by omega), fun k hk => ?_, ?_⟩
  · obtain ⟨hs, _⟩ := S.sk k hk
    have hmem := S.q k hk
    have hl := nd_len (nodn c) hs.nd (fun q hq => (hmem q).1 hq |>.1)
    refine ⟨walk_stk hs 20 (by omega), hs.nd, hl, fun v => ?_⟩
    rw [hmem v]
    constructor
    · rintro ⟨x, _, y, z⟩; exact ⟨x, y, z⟩
    · rintro ⟨x, y, z⟩; exact ⟨x, d v x.1 x.2, y, z⟩
  · rw [S.dn]
    have : (List.range (wOf c).parts.toNat).countP (fun (j : Nat) => PD (j : Int)) = (List.range (wOf c).parts.toNat).length := List.countP_eq_length.2 fun x hx => by
      have := List.mem_range.1 hx
      exact b x (by omega) (by omega)
    rw [this, List.length_range]
    omega
end Go.Proofs.Ytbpkcoemehmpbaa
