
import Derived.Test.YthoiaffeenhfgaaGreatMkSwB
namespace Go.Proofs.YthoiaffeenhfgaaGreat
set_option linter.unusedVariables false
set_option linter.unusedSimpArgs false
section
variable {K n : Nat} {g : Wg} {cy : Int} {L0 L L' : List Int} {T T' : Int} {F F' : Int → Nat} {PD PD' : Int → Bool} {M : Nat → Wn} {m m' : Wn} {k : Nat}
def wpl (g : Wg) (cy T : Int) (L : List Int) (m : Wn) : Int :=
  if m.pc = 2 then (if m.w = cy % 4294967296 * 4294967296 + T then 1 else 4) else if 3 ≤ m.pc then wdl g L m + 3 else if m.pc = 1 then 2 else 3
def wphl (K n : Nat) (g : Wg) (cy T : Int) (F : Int → Nat) (L : List Int) (M : Nat → Wn) : Int :=
  wsum (fun k => wpl g cy T L (M k)) K + (3 * (K : Int) + 1) * (g.parts - T) + 6 * (g.n - wmin (T * g.per) g.n) + 3 * (((K : Int) - 1) * (wleft n F : Int))
def WPL (K n : Nat) (g : Wg) (cy T : Int) (F : Int → Nat) (L : List Int) (M : Nat → Wn) (p i : Nat) : Prop :=
  (T < g.parts → (i : Int) + wphl K n g cy T F L M ≤ 75 * K + 48) ∧
  (T = g.parts → ∀ k : Nat, k < K → 3 ≤ (M k).pc → (if i < p then (p : Int) + K - 1 else i + (((k : Int) - i) % K)) + K * (wdl g L (M k) + cK K * (wout n g F (M k).part : Int)) ≤ p + 150 * K - 1)
theorem MJ.due0 (h : MJ n g cy L0 L T F PD m) : 0 ≤ wdl g L m := by
  unfold wdl
  by_cases p3 : m.pc = 3
  · have := h.p6 (by omega) (by omega); rw [if_pos p3]; omega
  rw [if_neg p3]
  by_cases p4 : m.pc = 4
  · have := h.p6 (by omega) (by omega); rw [if_pos p4]; omega
  rw [if_neg p4]
  by_cases p5 : m.pc = 5
  · have := h.p6 (by omega) (by omega); rw [if_pos p5]; omega
  rw [if_neg p5]
  by_cases p6 : m.pc = 6
  · have := h.p6 (by omega) (by omega)
    obtain ⟨_, _, _, x1, x3⟩ := h.x6 p6
    have := dueL_top L m.x x1 x3
    rw [if_pos p6]; omega
  rw [if_neg p6]; split <;> omega
theorem wpl_nn (h : MJ n g cy L0 L T F PD m) : 1 ≤ wpl g cy T L m := by
  have := h.due0
  unfold wpl
  by_cases p2 : m.pc = 2
  · rw [if_pos p2]; split <;> omega
  · rw [if_neg p2]
    by_cases p3 : 3 ≤ m.pc
    · rw [if_pos p3]; omega
    · rw [if_neg p3]; split <;> omega
theorem MJ.own (h : MJ n g cy L0 L T F PD m) (hn : g.n = n) (hper : 1 ≤ g.per) (a : 3 ≤ m.pc) : ∃ ol : Int, 0 ≤ ol ∧ ol ≤ win n g F m.part ∧ wdl g L m ≤ 6 * ol + 1 := by
  obtain ⟨⟨p0, _⟩, _, hl, ⟨h1, h2⟩, hu⟩ := h.pt a
  have h4 : 0 ≤ m.part * g.per := Int.mul_nonneg p0 (by omega)
  have h5 : m.last ≤ (m.part + 1) * g.per ∧ m.last ≤ g.n := by rw [hl]; unfold wmin; split <;> omega
  refine ⟨m.last + 1 - m.v, by omega, ?_, ?_⟩
  · by_cases h7 : m.pc = 7
    · have := h.p7 h7; omega
    · have hpc := h.pc
      have h6 := h.p6 a (by omega)
      have key := cnt_ge (fun (v : Nat) => decide (F ((v : Int) + 1) ≠ 2) && (decide (m.part * g.per < (v : Int) + 1) && decide ((v : Int) + 1 ≤ (m.part + 1) * g.per))) (m.v - 1).toNat m.last.toNat (fun j x y => by
        have e1 : m.part * g.per < (j : Int) + 1 := by omega
        have e2 : (j : Int) + 1 ≤ (m.part + 1) * g.per := by omega
        have e3 : F ((j : Int) + 1) ≠ 2 := by
          by_cases e : (j : Int) + 1 = m.v
          · rw [e]
            by_cases e6 : m.pc = 6
            · have := (h.x6 e6).1; omega
            · have := h.f0 a (by omega); omega
          · have := (hu ((j : Int) + 1) (by omega) (by omega) ⟨e1, e2⟩).2 (by omega); omega
        simp [e1, e2, e3]) n (by omega)
      have : (m.last.toNat - (m.v - 1).toNat : Nat) ≤ win n g F m.part := key
      omega
  · unfold wdl
    by_cases p3 : m.pc = 3
    · rw [if_pos p3]; omega
    rw [if_neg p3]
    by_cases p4 : m.pc = 4
    · rw [if_pos p4]; omega
    rw [if_neg p4]
    by_cases p5 : m.pc = 5
    · rw [if_pos p5]; omega
    rw [if_neg p5]
    by_cases p6 : m.pc = 6
    · obtain ⟨_, _, _, x1, x3⟩ := h.x6 p6
      have := dueL_top L m.x x1 x3
      rw [if_pos p6]; omega
    rw [if_neg p6]; split <;> omega
theorem SWQ.idle (h : SWQ K n g cy L0 L T F PD M) (hk : k < K) (hp : (M k).pc = 0) (hm : m'.cy = cy) (hq : m'.pc ≤ 1) : SWQ K n g cy L0 L T F PD (fset M k m') := by
  refine h.turn hk ⟨hm, by omega, fun e => by omega, fun e => by omega, fun e => by omega, fun e => by omega, fun e => by omega, fun e => by omega, fun e => by omega, fun e => by omega⟩ ?_ (fun e => by omega)
  constructor <;> (intro e; omega)
theorem wpl_re (h : m.pc = 0 ∨ True) : wpl g cy T L (wre0 m) = wpl g cy T L m := by
  unfold wre0
  by_cases hp : m.pc = 0
  · rw [if_pos hp]; simp [wpl, widl, hp]
  · rw [if_neg hp]
theorem wdl_re0 (m : Wn) : wdl g L (wre0 m) = wdl g L m := by
  unfold wre0
  by_cases hp : m.pc = 0
  · rw [if_pos hp]; simp [wdl, widl, hp]
  · rw [if_neg hp]
theorem SWQ.phi (hK : K = 1 ∨ K = 2 ∨ K = 3 ∨ K = 4) (h : SWQ K n g cy L0 L T F PD M) (S : SWQ K n g cy L0 L' T' F' PD' (fset M k m')) (hk : k < K) (h0 : (M k).pc ≠ 0) (hlt : T < g.parts)
    (hT : T' = T ∨ (T' = T + 1 ∧ (M k).pc = 2 ∧ (M k).w = cy % 4294967296 * 4294967296 + T ∧ m'.v = T * g.per + 1 ∧ m'.last = wmin ((T + 1) * g.per) g.n ∧ m'.pc = 3))
    (hown : 3 ≤ (M k).pc → wdl g L' m' + 1 ≤ wdl g L (M k)) (hle : (wleft n F' : Int) ≤ wleft n F)
    (hoth : ∀ i, i < K → i ≠ k → wdl g L' (M i) + 3 * (wleft n F' : Int) ≤ wdl g L (M i) + 3 * (wleft n F : Int))
    (hless : (M k).pc < 3 → T' = T → m'.pc < 3 ∧ ((M k).pc = 1 → T < g.parts → m'.pc = 2 ∧ m'.w = cy % 4294967296 * 4294967296 + T) ∧ ((M k).pc = 2 → (M k).w ≠ cy % 4294967296 * 4294967296 + T ∧ m'.pc = 0))
    (hmore : T' = T → 3 ≤ (M k).pc → 3 ≤ m'.pc ∨ m'.pc = 0) : wphl K n g cy T' F' L' (fset M k (wre0 m')) + 1 ≤ wphl K n g cy T F L M := by
  have gw := h.gw
  have hn0 := gw.n0
  rcases hT with hT | ⟨hT, p2, ew, ev, el, ep⟩
  · subst hT
    have own : wpl g cy T' L' (wre0 m') + 1 ≤ wpl g cy T' L (M k) := by
      rw [wpl_re (.inr trivial)]
      rcases Nat.lt_or_ge (M k).pc 3 with x | x
      · obtain ⟨a, b, c⟩ := hless x rfl
        have : (M k).pc = 1 ∨ (M k).pc = 2 := by omega
        rcases this with e | e
        · obtain ⟨b1, b2⟩ := b e hlt
          have e1 : wpl g cy T' L (M k) = 2 := by unfold wpl; rw [if_neg (by omega), if_neg (by omega), if_pos e]
          have e2 : wpl g cy T' L' m' = 1 := by unfold wpl; rw [if_pos b1, if_pos b2]
          omega
        · obtain ⟨c1, c2⟩ := c e
          have e1 : wpl g cy T' L (M k) = 4 := by unfold wpl; rw [if_pos e, if_neg c1]
          have e2 : wpl g cy T' L' m' = 3 := by unfold wpl; rw [if_neg (by omega), if_neg (by omega), if_neg (by omega)]
          omega
      · have e1 : wpl g cy T' L (M k) = wdl g L (M k) + 3 := by unfold wpl; rw [if_neg (by omega), if_pos x]
        have hd := hown x
        rcases hmore rfl x with y | y
        · have e2 : wpl g cy T' L' m' = wdl g L' m' + 3 := by unfold wpl; rw [if_neg (by omega), if_pos y]
          omega
        · have e2 : wpl g cy T' L' m' = 3 := by unfold wpl; rw [if_neg (by omega), if_neg (by omega), if_neg (by omega)]
          have e3 : wdl g L' m' = 0 := by unfold wdl; simp [y]
          omega
    have oth : ∀ i, i < K → i ≠ k → wpl g cy T' L' (M i) ≤ wpl g cy T' L (M i) + 3 * ((wleft n F : Int) - wleft n F') := fun i hi hne => by
      have := hoth i hi hne
      unfold wpl
      by_cases e : (M i).pc = 2
      · rw [if_pos e, if_pos e]; omega
      · rw [if_neg e, if_neg e]
        by_cases e3 : 3 ≤ (M i).pc
        · rw [if_pos e3, if_pos e3]; omega
        · rw [if_neg e3, if_neg e3]; omega
    have := sum_le (fun i => wpl g cy T' L (M i)) (fun i => wpl g cy T' L' (fset M k (wre0 m') i)) hK hk 1 (3 * ((wleft n F : Int) - wleft n F')) (by rw [fset_same]; exact own) (fun i hi hne => by rw [fset_other _ hne]; exact oth i hi hne)
    unfold wphl
    rcases hK with rfl | rfl | rfl | rfl <;> omega
  · have e1 : wpl g cy T L (M k) = 1 := by unfold wpl; rw [if_pos p2, if_pos ew]
    have e2 : wpl g cy T' L' (wre0 m') = 6 * (wmin ((T + 1) * g.per) g.n - T * g.per) + 4 := by
      rw [wpl_re (.inr trivial)]
      have e3 : wpl g cy T' L' m' = wdl g L' m' + 3 := by unfold wpl; rw [if_neg (by omega), if_pos (by omega)]
      have e4 : wdl g L' m' = 6 * (m'.last - m'.v) + 7 := by unfold wdl; rw [if_pos ep]
      rw [e3, e4, ev, el]; omega
    have oth : ∀ i, i < K → i ≠ k → wpl g cy T' L' (M i) ≤ wpl g cy T L (M i) + (3 + 3 * ((wleft n F : Int) - wleft n F')) := fun i hi hne => by
      have := hoth i hi hne
      unfold wpl
      by_cases e : (M i).pc = 2
      · rw [if_pos e, if_pos e]; split <;> split <;> omega
      · rw [if_neg e, if_neg e]
        by_cases e3 : 3 ≤ (M i).pc
        · rw [if_pos e3, if_pos e3]; omega
        · rw [if_neg e3, if_neg e3]; omega
    have := sum_le (fun i => wpl g cy T L (M i)) (fun i => wpl g cy T' L' (fset M k (wre0 m') i)) hK hk (-(6 * (wmin ((T + 1) * g.per) g.n - T * g.per) + 3)) (3 + 3 * ((wleft n F : Int) - wleft n F')) (by rw [fset_same, e2, e1]; omega) (fun i hi hne => by rw [fset_other _ hne]; exact oth i hi hne)
    have hnode := part_node gw.per hlt
    have ew1 : wmin (T * g.per) g.n = T * g.per := by unfold wmin; rw [if_pos (by omega)]
    unfold wphl
    rw [ew1, hT]
    rw [hT] at this
    rcases hK with rfl | rfl | rfl | rfl <;> omega
theorem SWQ.phi_ge (hK : K = 1 ∨ K = 2 ∨ K = 3 ∨ K = 4) (h : SWQ K n g cy L0 L T F PD M) (hk : k < K) : wpl g cy T L (M k) + 3 * (((K : Int) - 1) * (wleft n F : Int)) ≤ wphl K n g cy T F L M := by
  have h1 := sum_one (fun i => wpl g cy T L (M i)) hK hk (fun i hi => by have := wpl_nn (h.mi i hi); omega)
  have ht := h.t
  have hw : wmin (T * g.per) g.n ≤ g.n := by unfold wmin; split <;> omega
  unfold wphl
  rcases hK with rfl | rfl | rfl | rfl <;> omega
theorem SWQ.late (hK : K = 1 ∨ K = 2 ∨ K = 3 ∨ K = 4) (h : SWQ K n g cy L0 L T F PD M) (hk : k < K) (ha : 3 ≤ (M k).pc) (hn : n ≤ 12) {i p : Nat} (hi : (i : Int) + wphl K n g cy T F L M ≤ 75 * K + 48) :
    (if i < p then (p : Int) + K - 1 else i + (((k : Int) - i) % K)) + K * (wdl g L (M k) + cK K * (wout n g F (M k).part : Int)) ≤ p + 150 * K - 1 := by
  have h1 := h.phi_ge hK hk
  obtain ⟨ol, o0, o1, o2⟩ := (h.mi k hk).own h.gw.n0 h.gw.per ha
  have h2 := wleft_split n g F (M k).part
  have h3 := wleft_le (F := F) n
  have h4 : wpl g cy T L (M k) = wdl g L (M k) + 3 := by unfold wpl; rw [if_neg (by omega), if_pos ha]
  have h5 := (h.mi k hk).due0
  rcases hK with rfl | rfl | rfl | rfl
  · rw [show cK 1 = 0 from rfl]; split <;> omega
  · rw [show cK 2 = 3 from rfl]; split <;> omega
  · rw [show cK 3 = 3 from rfl]; split <;> omega
  · rw [show cK 4 = 3 from rfl]; split <;> omega
theorem SWQ.go (hK : K = 1 ∨ K = 2 ∨ K = 3 ∨ K = 4) (h : SWQ K n g cy L0 L T F PD M) (hk : k < K) {p i : Nat} (hn : n ≤ 12) (G : WPL K n g cy T F L M p i) (hturn : p ≤ i → k = i % K) :
    ∃ T' F' PD', SWQ K n g cy L0 (wmk g L (M k)).1 T' F' PD' (fset M k (wmk g L (M k)).2) ∧ SwEv n g cy L0 F F' PD PD' (wev g L (M k)).1 (wev g L (M k)).2 ∧ WPL K n g cy T' F' (wmk g L (M k)).1 (fset M k (wmk g L (M k)).2) p (i + 1) := by
  have mi := h.mi k hk
  have gw := h.gw
  have hn0 := gw.n0
  have hper := gw.per
  have ht := h.t
  by_cases h0 : (M k).pc = 0
  · have e1 : wmk g L (M k) = (L, wNew cy) := by unfold wmk; rw [if_pos h0, mi.cyc]
    have e2 : wev g L (M k) = (0, 0) := by unfold wev; rw [if_pos h0]
    rw [e1, e2]
    dsimp only
    have S := h.idle hk h0 (m' := wNew cy) rfl (by simp [wNew])
    refine ⟨T, F, PD, S, .none rfl fun v _ _ _ => Iff.rfl, fun hlt => ?_, fun heq k' hk' hact => ?_⟩
    · have g1 := G.1 hlt
      have := sum_le (fun i => wpl g cy T L (M i)) (fun i => wpl g cy T L (fset M k (wNew cy) i)) hK hk 1 0 (by
        rw [fset_same]
        have a : wpl g cy T L (wNew cy) = 2 := by simp [wpl, wNew]
        have b : wpl g cy T L (M k) = 3 := by simp [wpl, h0]
        omega) (fun i hi hne => by rw [fset_other _ hne]; omega)
      have e : wphl K n g cy T F L (fset M k (wNew cy)) + 1 ≤ wphl K n g cy T F L M := by
        unfold wphl
        rcases hK with rfl | rfl | rfl | rfl <;> omega
      omega
    · have hne : k' ≠ k := fun e => by subst e; rw [fset_same] at hact; simp [wNew] at hact
      rw [fset_other _ hne] at hact ⊢
      have := G.2 heq k' hk' hact
      by_cases hip : i < p
      · rw [if_pos hip] at this
        rcases hK with rfl | rfl | rfl | rfl <;> (split <;> omega)
      · have ht2 := hturn (by omega)
        rw [if_neg hip] at this
        rw [if_neg (by omega)]
        rcases hK with rfl | rfl | rfl | rfl <;> omega
  · obtain ⟨T', F', PD', S, ev, hT, hown, hle, hoth, hless, hmore, hfr⟩ := h.step hk
    have e1 : wmk g L (M k) = ((wstp g L (M k)).1, wre0 (wstp g L (M k)).2) := by unfold wmk; rw [if_neg h0]
    have e2 : wev g L (M k) = ((wstp g L (M k)).2.ek, (wstp g L (M k)).2.ea) := by unfold wev; rw [if_neg h0]
    rw [e1, e2]
    have hpart := wstp_part g L (M k)
    generalize hz : wstp g L (M k) = z at S ev hT hown hoth hless hmore hpart ⊢
    obtain ⟨L', m'⟩ := z
    dsimp only at S ev hT hown hoth hless hmore hpart ⊢
    have hmi' := S.mi k hk
    rw [fset_same] at hmi'
    have S2 : SWQ K n g cy L0 L' T' F' PD' (fset M k (wre0 m')) := by
      by_cases hp : m'.pc = 0
      · have := S.idle hk (by rw [fset_same]; exact hp) (m' := wre0 m') (by unfold wre0; rw [if_pos hp]; exact hmi'.cyc) (by rw [wre0_pc]; omega)
        rwa [fset_fset] at this
      · rw [wre0_no hp]; exact S
    have ht' := S.t
    refine ⟨T', F', PD', S2, ev, fun hlt => ?_, fun heq k' hk' hact => ?_⟩
    · have hTlt : T < g.parts := by rcases hT with e | e <;> omega
      have g1 := G.1 hTlt
      have hd := SWQ.phi hK h S hk h0 hTlt hT hown hle hoth hless hmore
      omega
    · by_cases hTl : T < g.parts
      · have g1 := G.1 hTl
        have hd := SWQ.phi hK h S hk h0 hTl hT hown hle hoth hless hmore
        exact S2.late hK hk' hact hn (by omega)
      · have hTP : T = g.parts := by omega
        have hTT : T' = T := by omega
        have g2 := G.2 hTP
        by_cases e : k' = k
        · subst e
          rw [fset_same] at hact ⊢
          rw [wdl_re0]
          have h3 : 3 ≤ m'.pc := by rwa [wre0_pc] at hact
          have h4 : 3 ≤ (M k').pc := by
            rcases Nat.lt_or_ge (M k').pc 3 with x | x
            · have := (hless x hTT).1; omega
            · exact x
          have ep : (wre0 m').part = (M k').part := by rw [wre0_no (by omega)]; exact hpart h4
          rw [ep, wout_same (fun u hu => (hfr u hu).2)]
          have a := g2 k' hk' h4
          have b := hown h4
          by_cases hip : i < p
          · rw [if_pos hip] at a
            rcases hK with rfl | rfl | rfl | rfl <;> (split <;> omega)
          · have ht2 := hturn (by omega)
            rw [if_neg hip] at a
            rw [if_neg (by omega)]
            rcases hK with rfl | rfl | rfl | rfl <;> omega
        · rw [fset_other _ e] at hact ⊢
          have a := g2 k' hk' hact
          have b := hoth k' hk' e
          have s1 := wleft_split n g F (M k').part
          have s2 := wleft_split n g F' (M k').part
          have s3 : win n g F' (M k').part = win n g F (M k').part := win_same fun u hu hin => by
            obtain ⟨x, y⟩ := hfr u hu
            exact pt_ne hper hin y (h.ds k' k hk' hk e hact x) rfl
          have c : wdl g L' (M k') + cK K * (wout n g F' (M k').part : Int) ≤ wdl g L (M k') + cK K * (wout n g F (M k').part : Int) := by
            rcases hK with rfl | rfl | rfl | rfl
            · omega
            · rw [show cK 2 = 3 from rfl]; omega
            · rw [show cK 3 = 3 from rfl]; omega
            · rw [show cK 4 = 3 from rfl]; omega
          by_cases hip : i < p
          · rw [if_pos hip] at a
            rcases hK with rfl | rfl | rfl | rfl <;> (split <;> omega)
          · have ht2 := hturn (by omega)
            rw [if_neg hip] at a
            rw [if_neg (by omega)]
            rcases hK with rfl | rfl | rfl | rfl <;> omega
theorem SWQ.over (hK : K = 1 ∨ K = 2 ∨ K = 3 ∨ K = 4) (h : SWQ K n g cy L0 L T F PD M) {p i : Nat} (hi : p + 150 * K ≤ i) (G : WPL K n g cy T F L M p i) : T = g.parts ∧ (∀ j : Int, 0 ≤ j → j < g.parts → PD j = true) ∧ ∀ k, k < K → ¬ 3 ≤ (M k).pc := by
  have ht := h.t
  have hTP : T = g.parts := by
    rcases Int.lt_or_le T g.parts with x | x
    · have g1 := G.1 x
      have h1 := h.phi_ge hK (k := 0) (by omega)
      have h2 := wpl_nn (h.mi 0 (by omega))
      rcases hK with rfl | rfl | rfl | rfl <;> omega
    · omega
  have hno : ∀ k, k < K → ¬ 3 ≤ (M k).pc := fun k hk ha => by
    have a := G.2 hTP k hk ha
    have b := (h.mi k hk).due0
    have hc : 0 ≤ cK K := by unfold cK; split <;> omega
    have hw : 0 ≤ cK K * (wout n g F (M k).part : Int) := Int.mul_nonneg hc (by omega)
    rw [if_neg (by omega)] at a
    rcases hK with rfl | rfl | rfl | rfl <;> omega
  refine ⟨hTP, fun j a b => ?_, hno⟩
  cases hb : PD j with
  | true => rfl
  | false =>
    obtain ⟨k, hk, p3, _⟩ := h.ow j a (by omega) hb
    exact absurd p3 (hno k hk)
theorem SWQ.begin (G : Gw n L.length g) (hs : L.getD g.sw.toNat 0 = cy % 4294967296 * 4294967296) (hd : L.getD g.dn.toNat 0 = 0) : SWQ K n g cy L L 0 (fun _ => 0) (fun _ => false) (fun _ => widl cy) := by
  have hP := parts_pos G
  refine ⟨G, rfl, by rw [hs]; omega, by omega, fun _ _ _ => rfl, fun _ _ _ _ => rfl, fun _ _ _ e => absurd rfl e, fun _ _ _ => by omega, fun j hj => (by cases hj), fun _ _ _ _ _ _ => rfl, fun j a b _ => by omega, fun k hk => ⟨rfl, by simp [widl], fun e => by simp [widl] at e, fun e => by simp [widl] at e, fun e => by simp [widl] at e, fun e => by simp [widl] at e, fun e => by simp [widl] at e, fun e => by simp [widl] at e, fun e => by simp [widl] at e, fun e => by simp [widl] at e⟩, fun k i _ _ _ e => by simp [widl] at e, ?_⟩
  rw [hd]; simp
theorem wpl_begin (hK : K = 1 ∨ K = 2 ∨ K = 3 ∨ K = 4) (G : Gw n L.length g) (hn : n ≤ 12) (p : Nat) : WPL K n g cy 0 (fun _ => 0) L (fun _ => widl cy) p 0 := by
  have hP := parts_pos G
  have hl := wleft_le (F := fun _ => 0) n
  have hn0 := G.n0
  refine ⟨fun _ => ?_, fun e => by omega⟩
  have e : wpl g cy 0 L (widl cy) = 3 := by simp [wpl, widl]
  have hw : 0 ≤ wmin (0 * g.per) g.n := by unfold wmin; rw [Int.zero_mul]; split <;> omega
  unfold wphl
  rcases hK with rfl | rfl | rfl | rfl <;> (simp only [wsum, e]; omega)
end
end Go.Proofs.YthoiaffeenhfgaaGreat
