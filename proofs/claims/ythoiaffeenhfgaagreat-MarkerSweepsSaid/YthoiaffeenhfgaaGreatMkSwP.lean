
import Derived.Test.YthoiaffeenhfgaaGreatMkSwR
import Derived.Test.YthoiaffeenhfgaaGreatMkF
namespace Go.Proofs.YthoiaffeenhfgaaGreat
set_option linter.unusedVariables false
set_option linter.unusedSimpArgs false
set_option maxRecDepth 100000
open Lay (plcc nodesN OkC Cfg lenL shOf partsC Rep firstV kindV)
theorem gw_is {c : Cfg} (hc : OkC c) {L : List Int} (h : L.length = lenL (shOf c)) : Gw (nodn c) L.length (wOf c) := by
  rw [h]; exact gw_of hc (Lay.bds hc).n0 (by have := (Lay.bds hc).n1; omega)
theorem nodn_is {c : Cfg} (hc : OkC c) : ((nodn c : Nat) : Int) = nodesN c := by have := (Lay.bds hc).n0; unfold nodn; omega
structure NoW (n : Nat) (g : Wg) (q : Int) : Prop where
  q0 : 0 ≤ q
  sw : q ≠ g.sw
  dn : q ≠ g.dn
  st : ∀ v : Int, 1 ≤ v → v ≤ n → q ≠ g.st v
  hd : ∀ c : Nat, c < 5 → q ≠ (g.hk c).head
  lk : ∀ (c : Nat) (x : Int), c < 5 → 1 ≤ x → x ≤ n → q ≠ atOf (g.hk c).links x
section
variable {K n : Nat} {g : Wg} {cy : Int} {L0 L L' : List Int} {T T' : Int} {F F' : Int → Nat} {PD PD' : Int → Bool} {M : Nat → Wn} {m m' : Wn} {k : Nat} {q : Int}
theorem SWQ.word (h : SWQ K n g cy L0 L T F PD M) (hk : k < K) (hq : NoW n g q) : (wmk g L (M k)).1.getD q.toNat 0 = L.getD q.toNat 0 := by
  have mi := h.mi k hk
  have G := h.gw
  have hpc := mi.pc
  have key : (wstp g L (M k)).1.getD q.toNat 0 = L.getD q.toNat 0 := by
    have : (M k).pc = 0 ∨ (M k).pc = 1 ∨ (M k).pc = 2 ∨ (M k).pc = 3 ∨ (M k).pc = 4 ∨ (M k).pc = 5 ∨ (M k).pc = 6 ∨ (M k).pc = 7 := by omega
    rcases this with e | e | e | e | e | e | e | e
    · simp [wstp, e]
    · simp [wstp, e]
    · unfold wstp
      rw [if_neg (by omega), if_pos e]
      split
      · exact pt_other hq.q0 hq.sw
      · rfl
    · simp [wstp, e]
    · simp [wstp, e]
    · obtain ⟨v1, v2, _⟩ := mi.node G.n0 G.per (by omega) (by omega)
      unfold wstp
      rw [if_neg (by omega), if_neg (by omega), if_neg (by omega), if_neg (by omega), if_pos e]
      exact pt_other hq.q0 (hq.st _ v1 v2)
    · obtain ⟨v1, v2, _⟩ := mi.node G.n0 G.per (by omega) (by omega)
      obtain ⟨_, _, ⟨xk, xkk, xi⟩, x1, x3⟩ := mi.x6 e
      have hc := G.cl _ v1 v2
      have gk := G.k _ hc
      unfold wstp
      rw [if_neg (by omega), if_neg (by omega), if_neg (by omega), if_neg (by omega), if_neg (by omega), if_pos e]
      dsimp only
      have hx123 : (M k).x.pc = 1 ∨ (M k).x.pc = 2 ∨ (M k).x.pc = 3 := by omega
      rcases hx123 with p | p | p
      · obtain ⟨x', ex, _⟩ := push_1 (L := L) xk p
        rw [ex]
      · obtain ⟨x', u, ex, _⟩ := push_2 (L := L) xk p
        rw [ex, xkk, xi]; exact pt_other hq.q0 (hq.lk _ _ hc v1 v2)
      · rcases push_3 (L := L) xk p (by rw [xkk]; exact gk.hd) with ⟨hsw, x', u, ex, y4⟩ | ⟨hsw, x', ex, y1, y2, y3, y4⟩
        · rw [ex, xkk]; exact pt_other hq.q0 (hq.hd _ hc)
        · rw [ex]
    · unfold wstp
      rw [if_neg (by omega), if_neg (by omega), if_neg (by omega), if_neg (by omega), if_neg (by omega), if_neg (by omega), if_pos e]
      exact pt_other hq.q0 hq.dn
  unfold wmk
  split
  · rfl
  · exact key
theorem SWQ.still (h : SWQ K n g cy L0 L T F PD M) (hk : k < K) (hT : T = g.parts) (hp : ¬ 3 ≤ (M k).pc) : (wmk g L (M k)).1 = L := by
  have mi := h.mi k hk
  unfold wmk
  by_cases h0 : (M k).pc = 0
  · rw [if_pos h0]
  · rw [if_neg h0]
    have : (M k).pc = 1 ∨ (M k).pc = 2 := by omega
    rcases this with e | e
    · simp [wstp, e]
    · obtain ⟨T', ew, t0, t1, t2⟩ := mi.p2 e
      show (wstp g L (M k)).1 = L
      unfold wstp
      rw [if_neg (by omega), if_pos e, if_neg]
      rintro ⟨_, x⟩
      rw [h.sw, ew] at x; omega
end
def PsiM (m : Mk) (x : Wn) : Prop := (m.dg = 0 ∧ x.pc = 0) ∨ (m.dg = 4 ∧ x = m.sw ∧ x.pc ≠ 0)
theorem mstp_sweep {c : Cfg} {L : List Int} {cy dr : Int} {m : Mk} {x : Wn} (h : PsiM m x) (hx : x.cy = cy) (h5 : ldq L 0 % 8 = 5) (h8 : ldq L 0 / 8 = cy) :
    (mstp c L dr m).1 = (wmk (wOf c) L x).1 ∧ PsiM (mstp c L dr m).2 (wmk (wOf c) L x).2 ∧ (mstp c L dr m).2.ek = (wev (wOf c) L x).1 ∧ (mstp c L dr m).2.ea = (wev (wOf c) L x).2 := by
  rcases h with ⟨d, p⟩ | ⟨d, rfl, p⟩
  · have nm : ¬ Mks L := fun e => by rcases e with e | e <;> omega
    have e1 : mstp c L dr m = (L, { mq m with sw := wNew cy, dg := 4 }) := by
      simp only [mstp, d]; simp [mlook, nm, h5, h8]
    have e2 : wmk (wOf c) L x = (L, wNew cy) := by unfold wmk; rw [if_pos p, hx]
    have e3 : wev (wOf c) L x = (0, 0) := by unfold wev; rw [if_pos p]
    rw [e1, e2, e3]
    exact ⟨rfl, .inr ⟨rfl, rfl, by simp [wNew]⟩, rfl, rfl⟩
  · have e1 : mstp c L dr m = ((wstp (wOf c) L m.sw).1, mswp m (wstp (wOf c) L m.sw).2) := by simp [mstp, d]
    have e2 : wmk (wOf c) L m.sw = ((wstp (wOf c) L m.sw).1, wre0 (wstp (wOf c) L m.sw).2) := by unfold wmk; rw [if_neg p]
    have e3 : wev (wOf c) L m.sw = ((wstp (wOf c) L m.sw).2.ek, (wstp (wOf c) L m.sw).2.ea) := by unfold wev; rw [if_neg p]
    rw [e1, e2, e3]
    refine ⟨rfl, ?_, ?_, ?_⟩
    · unfold mswp
      by_cases q : (wstp (wOf c) L m.sw).2.pc = 0
      · rw [if_pos q]; exact .inl ⟨rfl, by rw [wre0_pc]; exact q⟩
      · rw [if_neg q]; exact .inr ⟨d, by rw [wre0_no q], by rw [wre0_pc]; exact q⟩
    · unfold mswp; split <;> rfl
    · unfold mswp; split <;> rfl
structure AJ (K : Nat) (c : Cfg) (cy : Int) (L0 L : List Int) (M : Nat → Mk) (p i : Nat) (pf : Nat → Int) : Prop where
  ex : ∃ T F PD P, SWQ K (nodn c) (wOf c) cy L0 L T F PD P ∧ WPL K (nodn c) (wOf c) cy T F L P p i ∧ (∀ k, k < K → PsiM (M k) (P k)) ∧
    (∀ j : Nat, (j : Int) < (wOf c).parts → (PD j = true → pf j = 1) ∧ (PD j = false → pf j = 0))
  ph : ldq L 0 % 8 = 5 ∧ ldq L 0 / 8 = cy
  l0 : 0 < L.length
theorem now0 {c : Cfg} (hc : OkC c) : NoW (nodn c) (wOf c) 0 := by
  have e0 : plcc c 0 0 0 = 0 := phase0 c
  have n00 := nrm 0 0 0 (by omega) (by omega) (fun _ => rfl) (fun _ _ _ => rfl)
  have en := nodn_is hc
  have key : ∀ {k a b : Int}, Lay.Norm ⟨k, a, b⟩ → k ≠ 0 → (0 : Int) ≠ plcc c k a b := fun n hk e => by
    have := (one_place n00 n (by rw [e0]; omega) (by rw [e0]; exact e)).1; omega
  refine ⟨by omega, key (nrm 2 0 0 (by omega) (by omega) (fun _ => rfl) (fun _ _ _ => rfl)) (by omega), key (nrm 3 0 0 (by omega) (by omega) (fun _ => rfl) (fun _ _ _ => rfl)) (by omega), fun v _ _ => key (nrm 15 v 0 (by omega) (by omega) (fun h => by omega) (fun _ _ _ => rfl)) (by omega), fun d _ => key (nrm 7 d 0 (by omega) (by omega) (fun h => by omega) (fun _ _ _ => rfl)) (by omega), fun d x _ a b => ?_⟩
  show (0 : Int) ≠ atOf (nxtL c) x
  rw [nxt_at' hc]
  exact key (nrm 17 x 0 (by omega) (by omega) (fun h => by omega) (fun _ _ _ => rfl)) (by omega)
theorem AJ.start {K : Nat} (hK : K = 1 ∨ K = 2 ∨ K = 3 ∨ K = 4) {c : Cfg} (hc : OkC c) {cy : Int} {L : List Int} (hl : L.length = lenL (shOf c)) (hs : L.getD (wOf c).sw.toNat 0 = cy % 4294967296 * 4294967296) (hd : L.getD (wOf c).dn.toNat 0 = 0) (hn : nodn c ≤ 12) (h5 : ldq L 0 % 8 = 5) (h8 : ldq L 0 / 8 = cy) (p : Nat) : AJ K c cy L L (fun i => mNew c i) p 0 (fun _ => 0) := by
  have G := gw_is hc hl
  refine ⟨⟨0, fun _ => 0, fun _ => false, fun _ => widl cy, SWQ.begin G hs hd, wpl_begin hK G hn p, fun k _ => .inl ⟨rfl, rfl⟩, fun j _ => ⟨(fun e => by cases e), fun _ => rfl⟩⟩, ⟨h5, h8⟩, by rw [hl]; exact len_pos' hc⟩
where
  len_pos' {c : Cfg} (hc : OkC c) : 0 < lenL (shOf c) := by
    have p : plcc c 0 0 0 = 0 := phase0 c
    have := Lay.plc_lt (s := shOf c) (nrm 0 0 0 (by omega) (by omega) (fun _ => rfl) (fun _ _ _ => rfl)) (show 0 ≤ plcc c 0 0 0 by omega)
    have : plcc c 0 0 0 < (lenL (shOf c) : Int) := this
    omega
section
variable {K : Nat} {c : Cfg} {cy dr : Int} {L0 L : List Int} {M : Nat → Mk} {p i k : Nat} {pf : Nat → Int}
theorem AJ.go (hK : K = 1 ∨ K = 2 ∨ K = 3 ∨ K = 4) (hc : OkC c) (h : AJ K c cy L0 L M p i pf) (hk : k < K) (hn : nodn c ≤ 12) (ht : p ≤ i → k = i % K) (dr : Int) :
    ((mstp c L dr (M k)).2.ek = 6 ∧ ∃ j : Nat, (mstp c L dr (M k)).2.ea = (j : Int) ∧ (j : Int) < (wOf c).parts ∧ pf j = 0 ∧ AJ K c cy L0 (mstp c L dr (M k)).1 (fset M k (mstp c L dr (M k)).2) p (i + 1) (fset pf j 1)) ∨
    ((mstp c L dr (M k)).2.ek ≠ 6 ∧ AJ K c cy L0 (mstp c L dr (M k)).1 (fset M k (mstp c L dr (M k)).2) p (i + 1) pf) := by
  obtain ⟨⟨T, F, PD, P, S, G, hps, hp⟩, hph, hl0⟩ := h
  obtain ⟨e1, e2, e3, e4⟩ := mstp_sweep (c := c) (dr := dr) (hps k hk) ((S.mi k hk).cyc) hph.1 hph.2
  obtain ⟨T', F', PD', S', ev, G'⟩ := S.go hK hk hn G ht
  have hw := S.word hk (now0 hc)
  have hlen : (wmk (wOf c) L (P k)).1.length = L.length := by rw [S'.len, S.len]
  have hld : ldq (wmk (wOf c) L (P k)).1 0 = ldq L 0 := by
    unfold ldq
    rw [hlen]
    split
    · exact hw
    · rfl
  have hps' : ∀ j, j < K → PsiM (fset M k (mstp c L dr (M k)).2 j) (fset P k (wmk (wOf c) L (P k)).2 j) := fun j hj => by
    by_cases e : j = k
    · subst e; rw [fset_same, fset_same]; exact e2
    · rw [fset_other _ e, fset_other _ e]; exact hps j hj
  rw [e1, e3, e4]
  have ph' : ldq (wmk (wOf c) L (P k)).1 0 % 8 = 5 ∧ ldq (wmk (wOf c) L (P k)).1 0 / 8 = cy := by rw [hld]; exact hph
  have hl' : 0 < (wmk (wOf c) L (P k)).1.length := by rw [hlen]; exact hl0
  generalize (wev (wOf c) L (P k)).1 = ek at ev ⊢
  generalize (wev (wOf c) L (P k)).2 = ea at ev ⊢
  cases ev with
  | free v h1 h2 h3 h4 h5 => exact .inr ⟨by omega, ⟨⟨T', F', PD', _, S', G', hps', by rw [h5]; exact hp⟩, ph', hl'⟩⟩
  | part j h1 h2 h4 h5 =>
    refine .inl ⟨rfl, ea.toNat, by omega, by omega, ?_, ⟨⟨T', F', PD', _, S', G', hps', fun u u1 => ?_⟩, ph', hl'⟩⟩
    · refine (hp ea.toNat (by omega)).2 ?_
      rw [show ((ea.toNat : Nat) : Int) = ea by omega]; exact h2
    · subst h4
      by_cases e : u = ea.toNat
      · subst e
        rw [fset_same, show ((ea.toNat : Nat) : Int) = ea by omega, iset_same]
        exact ⟨fun _ => rfl, (fun hne => by cases hne)⟩
      · rw [fset_other _ e, iset_other _ (by omega)]; exact hp u u1
  | none h4 h5 => exact .inr ⟨by omega, ⟨⟨T', F', PD', _, S', G', hps', by rw [h4]; exact hp⟩, ph', hl'⟩⟩
theorem AJ.still (hK : K = 1 ∨ K = 2 ∨ K = 3 ∨ K = 4) (h : AJ K c cy L0 L M p i pf) (hk : k < K) (hi : p + 150 * K ≤ i) (dr : Int) : (mstp c L dr (M k)).1 = L := by
  obtain ⟨⟨T, F, PD, P, S, G, hps, hp⟩, hph, hl0⟩ := h
  obtain ⟨e1, _⟩ := mstp_sweep (c := c) (dr := dr) (hps k hk) ((S.mi k hk).cyc) hph.1 hph.2
  obtain ⟨o1, o2, o3⟩ := S.over hK hi G
  rw [e1]
  exact S.still hk o1 (o3 k hk)
theorem AJ.over (hK : K = 1 ∨ K = 2 ∨ K = 3 ∨ K = 4) (h : AJ K c cy L0 L M p i pf) (hi : p + 150 * K ≤ i) : (∀ j : Nat, (j : Int) < (wOf c).parts → pf j = 1) ∧ L.getD (wOf c).dn.toNat 0 = (wOf c).parts ∧ L.length = L0.length := by
  obtain ⟨⟨T, F, PD, P, S, G, hps, hp⟩, hph, hl0⟩ := h
  obtain ⟨o1, o2, o3⟩ := S.over hK hi G
  refine ⟨fun j hj => (hp j hj).1 (o2 j (by omega) hj), ?_, S.len⟩
  rw [S.dn]
  have hP := parts_pos S.gw
  have : (List.range (wOf c).parts.toNat).countP (fun (j : Nat) => PD (j : Int)) = (List.range (wOf c).parts.toNat).length := List.countP_eq_length.2 fun x hx => by
    have := List.mem_range.1 hx
    exact o2 x (by omega) (by omega)
  rw [this, List.length_range]; omega
theorem AJ.len (h : AJ K c cy L0 L M p i pf) : L.length = L0.length := by
  obtain ⟨⟨T, F, PD, P, S, _⟩, _⟩ := h
  exact S.len
end
end Go.Proofs.YthoiaffeenhfgaaGreat
