/- A map's packets: where they stand, and how they are at first. Where nodes stand among a map's words, for one that sweeps. -/
import Derived.Test.YtbpkcoemehmpbaaGreatPkOnce
import Derived.Test.YtbpkcoemehmpbaaGreatPkAlone
import Derived.Test.YtbpkcoemehmpbaaGreatJ8
import Derived.Test.YtbpkcoemehmpbaaGreatLayListsPure
import Derived.Test.YtbpkcoemehmpbaaGreatSwPure
import Derived.Test.YtbpkcoemehmpbaaGreatLayFirst
namespace Go.Proofs.YtbpkcoemehmpbaaGreat
open Go.RowKit
set_option linter.unusedVariables false
open Lay (plcc plc shOf packN nodesN OkC Cfg Norm firstV Rep lenL)

def spK (c : Cfg) : Sk := ⟨plcc c 5 0 0, lnkL c⟩
def poK (c : Cfg) : Sk := ⟨plcc c 4 0 0, lnkL c⟩
def gOf (c : Cfg) : Pg := ⟨spK c, poK c, fun x j => plcc c 13 x j, fun x => plcc c 11 x 0⟩
def pkn (c : Cfg) : Nat := (packN c).toNat
theorem pkn_is {c : Cfg} (hc : OkC c) : ((pkn c : Nat) : Int) = packN c := by have := (Lay.bds hc).p0; unfold pkn; omega

theorem nrm (k a b : Int) (h6 : 0 ≤ k) (h18 : k ≤ 18) (ha : k ≤ 5 → a = 0) (hb : k ≠ 10 → k ≠ 13 → k ≠ 18 → b = 0) : Norm ⟨k, a, b⟩ := ⟨h6, h18, ha, hb⟩
/-- Two things at one place are one. -/
theorem one_place {c : Cfg} {k a b k' a' b' : Int} (h : Norm ⟨k, a, b⟩) (h' : Norm ⟨k', a', b'⟩) (h0 : 0 ≤ plcc c k a b) (e : plcc c k a b = plcc c k' a' b') : k = k' ∧ a = a' ∧ b = b' := by
  have := Lay.plc_inj (s := shOf c) h h' h0 e.symm
  injection this with e1 e2 e3
  exact ⟨e1.symm, e2.symm, e3.symm⟩
theorem pos11 {c : Cfg} (hc : OkC c) {x : Int} (h1 : 1 ≤ x) (h2 : x ≤ packN c) : 0 ≤ plcc c 11 x 0 := by
  have := (Lay.bds hc).t4
  rw [← Lay.plc_many hc x, Lay.wordL, if_pos (by omega)]; omega
theorem pos12 {c : Cfg} (hc : OkC c) {x : Int} (h1 : 1 ≤ x) (h2 : x ≤ packN c) : 0 ≤ plcc c 12 x 0 := Lay.link_pos hc x h1 h2
theorem pos13 {c : Cfg} (hc : OkC c) {x j : Int} (h1 : 1 ≤ x) (h2 : x ≤ packN c) (h3 : 0 ≤ j) (h4 : j < 4) : 0 ≤ plcc c 13 x j := by
  have := (Lay.bds hc).t4
  rw [← Lay.plc_task hc x j, Lay.itemL, if_pos (by omega), Lay.wordL, if_pos (by omega)]; omega
theorem gk_of {c : Cfg} (hc : OkC c) (h : Int) (h5 : h = 4 ∨ h = 5) : Gk (pkn c) (lenL (shOf c)) ⟨plcc c h 0 0, lnkL c⟩ := by
  have hn := pkn_is hc
  have hb := (Lay.bds hc).p1
  have e : plcc c h 0 0 = h := Lay.single_pos c h (by omega) (by omega)
  refine ⟨by omega, ⟨by show 0 ≤ plcc c h 0 0; omega, Lay.plc_lt (nrm h 0 0 (by omega) (by omega) (fun _ => rfl) (fun _ _ _ => rfl)) (by show 0 ≤ plcc c h 0 0; omega)⟩, fun x h1 h2 => ?_, fun x y h1 h2 h3 h4 he => ?_⟩
  · show 0 ≤ atOf (lnkL c) x ∧ atOf (lnkL c) x < _ ∧ atOf (lnkL c) x ≠ plcc c h 0 0
    rw [lnk_at hc]
    have p := pos12 hc h1 (by omega)
    have nx : Norm ⟨12, x, 0⟩ := nrm 12 x 0 (by omega) (by omega) (fun h => by omega) (fun _ _ _ => rfl)
    refine ⟨p, Lay.plc_lt nx p, fun he => ?_⟩
    have := one_place nx (nrm h 0 0 (by omega) (by omega) (fun _ => rfl) (fun _ _ _ => rfl)) p he
    omega
  · have he' : atOf (lnkL c) x = atOf (lnkL c) y := he
    rw [lnk_at hc, lnk_at hc] at he'
    have nx : ∀ z, Norm ⟨12, z, 0⟩ := fun z => nrm 12 z 0 (by omega) (by omega) (fun h => by omega) (fun _ _ _ => rfl)
    exact (one_place (nx x) (nx y) (pos12 hc h1 (by omega)) he').2.1
theorem gp_of {c : Cfg} (hc : OkC c) : Gp (pkn c) (lenL (shOf c)) (gOf c) := by
  have hn := pkn_is hc
  have e4 : plcc c 4 0 0 = 4 := Lay.single_pos c 4 (by omega) (by omega)
  have e5 : plcc c 5 0 0 = 5 := Lay.single_pos c 5 (by omega) (by omega)
  have n0 : ∀ h : Int, 0 ≤ h → h ≤ 5 → Norm ⟨h, 0, 0⟩ := fun h h1 h2 => nrm h 0 0 h1 (by omega) (fun _ => rfl) (fun _ _ _ => rfl)
  have n1 : ∀ k z : Int, 6 ≤ k → k ≤ 18 → Norm ⟨k, z, 0⟩ := fun k z h1 h2 => nrm k z 0 (by omega) h2 (fun h => by omega) (fun _ _ _ => rfl)
  have n3 : ∀ z j : Int, Norm ⟨13, z, j⟩ := fun z j => nrm 13 z j (by omega) (by omega) (fun h => by omega) (fun _ h _ => absurd rfl h)
  refine ⟨gk_of hc 5 (.inr rfl), gk_of hc 4 (.inl rfl), rfl, by show plcc c 5 0 0 ≠ plcc c 4 0 0; omega, ?_, ?_, ?_, ?_, ?_, ?_, ?_⟩
  · intro x j h1 h2 h3 h4
    have p := pos13 hc h1 (by omega) h3 h4
    refine ⟨p, Lay.plc_lt (n3 x j) p, fun he => ?_, fun he => ?_⟩
    · have := one_place (n3 x j) (n0 5 (by omega) (by omega)) p he; omega
    · have := one_place (n3 x j) (n0 4 (by omega) (by omega)) p he; omega
  · intro x j y h1 h2 h3 h4 h5 h6 he
    have he' : plcc c 13 x j = atOf (lnkL c) y := he
    rw [lnk_at hc] at he'
    have := one_place (n3 x j) (n1 12 y (by omega) (by omega)) (pos13 hc h1 (by omega) h3 h4) he'; omega
  · intro x j y h1 h2 h3 h4 h5 h6 he
    have := one_place (n3 x j) (n1 11 y (by omega) (by omega)) (pos13 hc h1 (by omega) h3 h4) he; omega
  · intro x j y i h1 h2 h3 h4 h5 h6 h7 h8 he
    have := one_place (n3 x j) (n3 y i) (pos13 hc h1 (by omega) h3 h4) he
    exact this.2
  · intro x h1 h2
    have p := pos11 hc h1 (by omega)
    refine ⟨p, Lay.plc_lt (n1 11 x (by omega) (by omega)) p, fun he => ?_, fun he => ?_⟩
    · have := one_place (n1 11 x (by omega) (by omega)) (n0 5 (by omega) (by omega)) p he; omega
    · have := one_place (n1 11 x (by omega) (by omega)) (n0 4 (by omega) (by omega)) p he; omega
  · intro x y h1 h2 h3 h4 he
    have he' : plcc c 11 x 0 = atOf (lnkL c) y := he
    rw [lnk_at hc] at he'
    have := one_place (n1 11 x (by omega) (by omega)) (n1 12 y (by omega) (by omega)) (pos11 hc h1 (by omega)) he'; omega
  · intro x y h1 h2 h3 h4 he
    exact (one_place (n1 11 x (by omega) (by omega)) (n1 11 y (by omega) (by omega)) (pos11 hc h1 (by omega)) he).2.1

/-- What a thing's word is at first. -/
theorem first_word {c : Cfg} {L : List Int} (h : Rep (shOf c) L (firstV c)) {k a b : Int} (hn : Norm ⟨k, a, b⟩) (h0 : 0 ≤ plcc c k a b) : L.getD (plcc c k a b).toNat 0 = firstV c ⟨k, a, b⟩ := h.2 _ hn h0
theorem chain_from {c : Cfg} (hc : OkC c) {L : List Int} {k : Sk} (hk : k.links = lnkL c) (h : Rep (shOf c) L (firstV c)) : ∀ (m j : Nat), j + m = pkn c → Chain k L (if m = 0 then 0 else (j : Int) + 1) ((List.range m).map fun (i : Nat) => ((j + i + 1 : Nat) : Int))
  | 0, j, _ => by simp [Chain]
  | m + 1, j, e => by
    have hn := pkn_is hc
    rw [List.range_succ_eq_map, List.map_cons]
    refine ⟨by simp, ?_⟩
    have ih := chain_from hc hk h m (j + 1) (by omega)
    have e1 : lkw k L ((j + 0 + 1 : Nat) : Int) = if m = 0 then 0 else ((j + 1 : Nat) : Int) + 1 := by
      unfold lkw
      rw [hk, lnk_at hc]
      have p := pos12 hc (x := ((j + 0 + 1 : Nat) : Int)) (by omega) (by omega)
      rw [first_word h (nrm 12 _ 0 (by omega) (by omega) (fun h => by omega) (fun _ _ _ => rfl)) p, Lay.fv_link hc _ (by omega)]
      by_cases hm : m = 0
      · rw [if_pos hm, if_neg (by omega)]
      · rw [if_neg hm, if_pos (by omega)]
    rw [e1]
    have e2 : (List.map (fun (i : Nat) => ((j + i + 1 : Nat) : Int)) (List.map Nat.succ (List.range m))) = (List.range m).map fun (i : Nat) => ((j + 1 + i + 1 : Nat) : Int) := by
      rw [List.map_map]; apply List.map_congr_left; intro i _; simp only [Function.comp]; congr 1; omega
    rw [e2]
    exact ih
/-- At first all packets are spare, and the pool has none. -/
theorem stk_first {c : Cfg} (hc : OkC c) {L : List Int} (h : Rep (shOf c) L (firstV c)) : Stk (pkn c) (spK c) L 0 (En (pkn c)) ∧ Stk (pkn c) (poK c) L 0 [] := by
  have hn := pkn_is hc
  have hp := (Lay.bds hc).p0
  have e4 : plcc c 4 0 0 = 4 := Lay.single_pos c 4 (by omega) (by omega)
  have e5 : plcc c 5 0 0 = 5 := Lay.single_pos c 5 (by omega) (by omega)
  have n0 : ∀ h : Int, 0 ≤ h → h ≤ 5 → Norm ⟨h, 0, 0⟩ := fun h h1 h2 => nrm h 0 0 h1 (by omega) (fun _ => rfl) (fun _ _ _ => rfl)
  have hE : En (pkn c) = (List.range (pkn c)).map fun (i : Nat) => ((0 + i + 1 : Nat) : Int) := by
    unfold En; apply List.map_congr_left; intro i _; congr 1; omega
  have hh : (En (pkn c)).headD 0 = 1 := by
    obtain ⟨m, hm⟩ : ∃ m, pkn c = m + 1 := ⟨pkn c - 1, by omega⟩
    rw [hm]; simp [En, List.range_succ_eq_map]
  refine ⟨⟨by rw [h.1]; exact gk_of hc 5 (.inr rfl), by omega, by omega, ?_, fun q hq => mem_En.1 hq, nd_En _, ?_⟩, ⟨by rw [h.1]; exact gk_of hc 4 (.inl rfl), by omega, by omega, ?_, by simp, by simp, by simp [Chain]⟩⟩
  · show L.getD (plcc c 5 0 0).toNat 0 = _
    rw [first_word h (n0 5 (by omega) (by omega)) (by omega), Lay.fv_spare hc, hh]; rfl
  · rw [hh, hE]
    have := chain_from hc (k := spK c) rfl h (pkn c) 0 (by omega)
    rw [if_neg (by omega)] at this
    exact this
  · show L.getD (plcc c 4 0 0).toNat 0 = _
    rw [first_word h (n0 4 (by omega) (by omega)) (by omega), Lay.fv_pool]; rfl
end Go.Proofs.YtbpkcoemehmpbaaGreat

namespace Go.Proofs.YtbpkcoemehmpbaaGreat
open Go.RowKit
set_option linter.unusedVariables false
open Lay (plcc plc shOf packN nodesN OkC Cfg Norm firstV Rep lenL kindV)

def wOf (c : Cfg) : Wg := ⟨plcc c 2 0 0, plcc c 3 0 0, fun v => plcc c 15 v 0, fun v => plcc c 16 v 0, fun v => (kindV c v).toNat, fun k => ⟨plcc c 7 (k : Int) 0, nxtL c⟩, nodesN c, c.sw⟩
def nodn (c : Cfg) : Nat := (nodesN c).toNat
theorem node_kind {c : Cfg} (hc : OkC c) {v : Int} (h1 : 1 ≤ v) (h2 : v ≤ nodesN c) : 0 ≤ kindV c v ∧ kindV c v < 5 := by
  rcases Lay.kindV_cases hc v with ⟨k, h⟩ | ⟨k, _⟩ | ⟨k, _⟩ | ⟨k, _⟩ | ⟨k, _⟩ | ⟨k, _⟩
  · omega
  all_goals omega
theorem gw_of {c : Cfg} (hc : OkC c) (hn : 1 ≤ nodesN c) (h9 : nodesN c ≤ 1000) : Gw (nodn c) (lenL (shOf c)) (wOf c) := by
  have en : ((nodn c : Nat) : Int) = nodesN c := by unfold nodn; omega
  have n0 : ∀ h : Int, 0 ≤ h → h ≤ 5 → Norm ⟨h, 0, 0⟩ := fun h h1 h2 => nrm h 0 0 h1 (by omega) (fun _ => rfl) (fun _ _ _ => rfl)
  have n1 : ∀ k z : Int, 6 ≤ k → k ≤ 17 → Norm ⟨k, z, 0⟩ := fun k z h1 h2 => nrm k z 0 (by omega) (by omega) (fun h => by omega) (fun _ _ _ => rfl)
  have e2 : plcc c 2 0 0 = 2 := Lay.single_pos c 2 (by omega) (by omega)
  have e3 : plcc c 3 0 0 = 3 := Lay.single_pos c 3 (by omega) (by omega)
  have p15 : ∀ v : Int, 1 ≤ v → v ≤ nodesN c → 0 ≤ plcc c 15 v 0 := fun v a b => Lay.node_pos hc 1 v (by omega) (by omega) a b
  have p16 : ∀ v : Int, 1 ≤ v → v ≤ nodesN c → 0 ≤ plcc c 16 v 0 := fun v a b => Lay.node_pos hc 2 v (by omega) (by omega) a b
  have p17 : ∀ v : Int, 1 ≤ v → v ≤ nodesN c → 0 ≤ plcc c 17 v 0 := fun v a b => Lay.node_pos hc 3 v (by omega) (by omega) a b
  have p7 : ∀ k : Nat, k < 5 → 0 ≤ plcc c 7 (k : Int) 0 := fun k a => Lay.head_pos hc k (by omega) (by omega)
  have lt : ∀ {k z : Int}, Norm ⟨k, z, 0⟩ → 0 ≤ plcc c k z 0 → plcc c k z 0 < (lenL (shOf c) : Int) := fun n p => Lay.plc_lt n p
  have sw1 : 1 ≤ c.sw := by
    obtain ⟨a0, a1, b0, b1, c0, c1, d0, d1, e0, e1, s0, k0, k1, u0, u1, q0, q1, h0, h1, f0, f1, r0, r1, w0, w1⟩ := hc
    omega
  refine ⟨en.symm, by omega, by omega, sw1, ⟨by show 0 ≤ plcc c 2 0 0; omega, lt (n0 2 (by omega) (by omega)) (by omega)⟩, ⟨by show 0 ≤ plcc c 3 0 0; omega, lt (n0 3 (by omega) (by omega)) (by omega)⟩, by show plcc c 2 0 0 ≠ plcc c 3 0 0; omega, fun v a b => ?_, fun v a b => ?_, fun v a b => ?_, fun v u a b d e h => ?_, fun v u a b d e h => ?_, fun k hk => ?_, fun _ _ _ _ => rfl, fun k l hk hl h => ?_, fun k hk => ?_, fun k l x hk hl a b h => ?_, fun k x hk a b => ?_⟩
  · have := node_kind hc a (by omega)
    show (kindV c v).toNat < 5; omega
  · have p := p15 v a (by omega)
    refine ⟨p, lt (n1 15 v (by omega) (by omega)) p, fun h => ?_, fun h => ?_⟩
    · have := one_place (n1 15 v (by omega) (by omega)) (n0 2 (by omega) (by omega)) p h; omega
    · have := one_place (n1 15 v (by omega) (by omega)) (n0 3 (by omega) (by omega)) p h; omega
  · have p := p16 v a (by omega)
    refine ⟨p, lt (n1 16 v (by omega) (by omega)) p, fun h => ?_, fun h => ?_⟩
    · have := one_place (n1 16 v (by omega) (by omega)) (n0 2 (by omega) (by omega)) p h; omega
    · have := one_place (n1 16 v (by omega) (by omega)) (n0 3 (by omega) (by omega)) p h; omega
  · exact (one_place (n1 15 v (by omega) (by omega)) (n1 15 u (by omega) (by omega)) (p15 v a (by omega)) h).2.1
  · have := one_place (n1 15 v (by omega) (by omega)) (n1 16 u (by omega) (by omega)) (p15 v a (by omega)) h; omega
  · have p := p7 k hk
    refine ⟨by omega, ⟨p, lt (n1 7 k (by omega) (by omega)) p⟩, fun x a b => ?_, fun x y a b d e h => ?_⟩
    · show 0 ≤ atOf (nxtL c) x ∧ atOf (nxtL c) x < _ ∧ atOf (nxtL c) x ≠ plcc c 7 (k : Int) 0
      rw [nxt_at' hc]
      have p := p17 x a (by omega)
      refine ⟨p, lt (n1 17 x (by omega) (by omega)) p, fun h => ?_⟩
      have := one_place (n1 17 x (by omega) (by omega)) (n1 7 k (by omega) (by omega)) p h; omega
    · have h' : atOf (nxtL c) x = atOf (nxtL c) y := h
      rw [nxt_at' hc, nxt_at' hc] at h'
      exact (one_place (n1 17 x (by omega) (by omega)) (n1 17 y (by omega) (by omega)) (p17 x a (by omega)) h').2.1
  · have := (one_place (n1 7 k (by omega) (by omega)) (n1 7 l (by omega) (by omega)) (p7 k hk) h).2.1; omega
  · have p := p7 k hk
    refine ⟨fun h => ?_, fun h => ?_, fun v a b => ⟨fun h => ?_, fun h => ?_⟩⟩
    · have := one_place (n1 7 k (by omega) (by omega)) (n0 2 (by omega) (by omega)) p h; omega
    · have := one_place (n1 7 k (by omega) (by omega)) (n0 3 (by omega) (by omega)) p h; omega
    · have := one_place (n1 7 k (by omega) (by omega)) (n1 15 v (by omega) (by omega)) p h; omega
    · have := one_place (n1 7 k (by omega) (by omega)) (n1 16 v (by omega) (by omega)) p h; omega
  · have h' : atOf (nxtL c) x = plcc c 7 (l : Int) 0 := h
    rw [nxt_at' hc] at h'
    have := one_place (n1 17 x (by omega) (by omega)) (n1 7 l (by omega) (by omega)) (p17 x a (by omega)) h'; omega
  · show atOf (nxtL c) x ≠ plcc c 2 0 0 ∧ atOf (nxtL c) x ≠ plcc c 3 0 0 ∧ ∀ v : Int, 1 ≤ v → v ≤ (nodn c : Int) → atOf (nxtL c) x ≠ plcc c 15 v 0 ∧ atOf (nxtL c) x ≠ plcc c 16 v 0
    rw [nxt_at' hc]
    have p := p17 x a (by omega)
    refine ⟨fun h => ?_, fun h => ?_, fun v a b => ⟨fun h => ?_, fun h => ?_⟩⟩
    · have := one_place (n1 17 x (by omega) (by omega)) (n0 2 (by omega) (by omega)) p h; omega
    · have := one_place (n1 17 x (by omega) (by omega)) (n0 3 (by omega) (by omega)) p h; omega
    · have := one_place (n1 17 x (by omega) (by omega)) (n1 15 v (by omega) (by omega)) p h; omega
    · have := one_place (n1 17 x (by omega) (by omega)) (n1 16 v (by omega) (by omega)) p h; omega
end Go.Proofs.YtbpkcoemehmpbaaGreat
