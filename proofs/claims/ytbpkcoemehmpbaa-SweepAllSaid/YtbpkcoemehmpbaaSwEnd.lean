/- Parts that are swept: everybody comes to an end, and what is then. -/
import Derived.Test.YtbpkcoemehmpbaaSwPure
namespace Go.Proofs.Ytbpkcoemehmpbaa
set_option linter.unusedVariables false
set_option linter.unusedSimpArgs false

section
variable {n : Nat} {g : Wg} {cy : Int} {L0 L L' : List Int} {T T' : Int} {F F' : Int → Nat} {PD PD' : Int → Bool} {Ts Ts' : Nat → Int} {Qs Qs' : Nat → List Int} {M : Nat → Wn} {m m' : Wn} {k : Nat}
/-- How much is left, while parts are left. -/
def wph (g : Wg) (cy T : Int) (Ts : Nat → Int) (m : Wn) : Int :=
  if m.pc = 2 then (if m.w = cy % 4294967296 * 4294967296 + T then 1 else 3) else if 3 ≤ m.pc then wdue g Ts m + 2 else 2
def wphi (n : Nat) (g : Wg) (cy T : Int) (F : Int → Nat) (Ts : Nat → Int) (M : Nat → Wn) : Int :=
  wph g cy T Ts (M 0) + wph g cy T Ts (M 1) + wph g cy T Ts (M 2) + 7 * (g.parts - T) + 6 * (g.n - wmin (T * g.per) g.n) + 6 * (wleft n F : Int)
/-- How it goes on, behind i steps, of which p may be anyone's: then everybody has turns in order. -/
def WPG (n : Nat) (g : Wg) (cy T : Int) (F : Int → Nat) (Ts : Nat → Int) (M : Nat → Wn) (p i : Nat) : Prop :=
  (T < g.parts → (i : Int) + wphi n g cy T F Ts M ≤ 240) ∧
  (T = g.parts → ∀ k : Nat, k < 3 → 3 ≤ (M k).pc → (if i < p then (p : Int) + 2 else i + (((k : Int) - i) % 3)) + 3 * (wdue g Ts (M k) + 3 * (wleft n F : Int)) ≤ p + 599)
theorem wleft_le : ∀ n : Nat, wleft n F ≤ n := fun n => by
  have := List.countP_le_length (p := fun (v : Nat) => decide (F ((v : Int) + 1) ≠ 2)) (l := List.range n)
  simpa [wleft] using this
theorem MI.due0 (h : MI n g cy L0 L T F PD Ts Qs m) : 0 ≤ wdue g Ts m := by
  unfold wdue
  by_cases p3 : m.pc = 3
  · have := h.p6 (by omega) (by omega); rw [if_pos p3]; omega
  rw [if_neg p3]
  by_cases p4 : m.pc = 4
  · have := h.p6 (by omega) (by omega); rw [if_pos p4]; omega
  rw [if_neg p4]
  by_cases p5 : m.pc = 5
  · have := h.p6 (by omega) (by omega); rw [if_pos p5]; omega
  rw [if_neg p5]
  by_cases p6 : m.pc = 6
  · have := h.p6 (by omega) (by omega)
    obtain ⟨_, _, P, _⟩ := h.x6 p6
    have : 0 ≤ due (Ts (g.cl m.v)) m.x := by have := P.pc_le; unfold due; repeat' split
                                             all_goals omega
    rw [if_pos p6]; omega
  rw [if_neg p6]; split <;> omega
theorem MI.due9 (h : MI n g cy L0 L T F PD Ts Qs m) (hn : g.n = n) (hper : 1 ≤ g.per) : wdue g Ts m ≤ 6 * n + 1 := by
  have key : 3 ≤ m.pc → m.pc ≤ 6 → m.last - m.v ≤ (n : Int) - 1 := fun a b => by
    obtain ⟨x, y, _⟩ := h.node hn hper a b
    obtain ⟨_, _, hl, _⟩ := h.pt a
    have : m.last ≤ g.n := by rw [hl]; unfold wmin; split <;> omega
    omega
  unfold wdue
  by_cases p3 : m.pc = 3
  · have := key (by omega) (by omega); rw [if_pos p3]; omega
  rw [if_neg p3]
  by_cases p4 : m.pc = 4
  · have := key (by omega) (by omega); rw [if_pos p4]; omega
  rw [if_neg p4]
  by_cases p5 : m.pc = 5
  · have := key (by omega) (by omega); rw [if_pos p5]; omega
  rw [if_neg p5]
  by_cases p6 : m.pc = 6
  · have := key (by omega) (by omega)
    obtain ⟨_, _, P, _⟩ := h.x6 p6
    have := due_top (Ts (g.cl m.v)) m.x P.pc_le
    rw [if_pos p6]; omega
  rw [if_neg p6]; split <;> omega
theorem wph_nn (h : MI n g cy L0 L T F PD Ts Qs m) : 1 ≤ wph g cy T Ts m ∧ (m.pc < 3 → wph g cy T Ts m ≤ 3) := by
  have := h.due0
  unfold wph
  by_cases p2 : m.pc = 2
  · rw [if_pos p2]; split <;> omega
  · rw [if_neg p2]
    by_cases p3 : 3 ≤ m.pc
    · rw [if_pos p3]; omega
    · rw [if_neg p3]; omega
/-- A finished one begins anew. -/
def wre (m : Wn) : Wn := if m.pc = 0 then wNew m.cy else m
theorem SI.again (h : SI n g cy L0 L T F PD Ts Qs M) (hk : k < 3) : SI n g cy L0 L T F PD Ts Qs (fset M k (wre (M k))) := by
  have mi := h.mi k hk
  by_cases hp : (M k).pc = 0
  · have e : wre (M k) = wNew cy := by unfold wre; rw [if_pos hp, mi.cyc]
    rw [e]
    refine h.turn hk ⟨rfl, by simp [wNew], fun e => by simp [wNew] at e, fun e => by simp [wNew] at e, fun e => by simp [wNew] at e, fun e => by simp [wNew] at e, fun e => by simp [wNew] at e, fun e => by simp [wNew] at e, fun e => by simp [wNew] at e, fun e => by simp [wNew] at e⟩ ?_ (fun e => by simp [wNew] at e)
    constructor
    · intro e; omega
    · intro e; simp [wNew] at e
  · have e : wre (M k) = M k := by unfold wre; rw [if_neg hp]
    rw [e]
    refine h.turn hk mi Iff.rfl (fun _ => rfl)
theorem wdue_re (m : Wn) : wdue g Ts (wre m) = wdue g Ts m := by
  unfold wre
  by_cases hp : m.pc = 0
  · rw [if_pos hp]; simp [wdue, wNew, hp]
  · rw [if_neg hp]
theorem wph_re (m : Wn) : wph g cy T Ts (wre m) = wph g cy T Ts m := by
  unfold wre
  by_cases hp : m.pc = 0
  · rw [if_pos hp]; simp [wph, wNew, hp]
  · rw [if_neg hp]
theorem wre_pc (m : Wn) : 3 ≤ (wre m).pc ↔ 3 ≤ m.pc := by
  unfold wre
  by_cases hp : m.pc = 0
  · rw [if_pos hp]; simp [wNew, hp]
  · rw [if_neg hp]
theorem fset_fset {α : Type} (f : Nat → α) (k : Nat) (a b : α) : fset (fset f k a) k b = fset f k b := by
  funext i; unfold fset; split <;> rfl
/-- Of three numbers. -/
theorem three {α : Type} (f : α → Int) (M M' : Nat → α) (k : Nat) (hk : k < 3) (d : Int) (h1 : f (M' k) + d ≤ f (M k)) (h2 : ∀ i, i < 3 → i ≠ k → f (M' i) ≤ f (M i)) : f (M' 0) + f (M' 1) + f (M' 2) + d ≤ f (M 0) + f (M 1) + f (M 2) := by
  have : k = 0 ∨ k = 1 ∨ k = 2 := by omega
  rcases this with rfl | rfl | rfl
  · have a := h2 1 (by omega) (by omega); have b := h2 2 (by omega) (by omega); omega
  · have a := h2 0 (by omega) (by omega); have b := h2 2 (by omega) (by omega); omega
  · have a := h2 0 (by omega) (by omega); have b := h2 1 (by omega) (by omega); omega
theorem three2 (a b : Nat → Int) (k : Nat) (hk : k < 3) (d e : Int) (h1 : a k + d ≤ b k) (h2 : ∀ i, i < 3 → i ≠ k → a i ≤ b i + e) : a 0 + a 1 + a 2 + d ≤ b 0 + b 1 + b 2 + 2 * e := by
  have : k = 0 ∨ k = 1 ∨ k = 2 := by omega
  rcases this with rfl | rfl | rfl
  · have x := h2 1 (by omega) (by omega); have y := h2 2 (by omega) (by omega); omega
  · have x := h2 0 (by omega) (by omega); have y := h2 2 (by omega) (by omega); omega
  · have x := h2 0 (by omega) (by omega); have y := h2 1 (by omega) (by omega); omega
/-- While parts are left, each step leaves less. -/
theorem SI.phi (h : SI n g cy L0 L T F PD Ts Qs M) (S : SI n g cy L0 L' T' F' PD' Ts' Qs' (fset M k m')) (hk : k < 3) (h0 : (M k).pc ≠ 0) (hlt : T < g.parts)
    (hT : T' = T ∨ (T' = T + 1 ∧ (M k).pc = 2 ∧ (M k).w = cy % 4294967296 * 4294967296 + T ∧ m'.v = T * g.per + 1 ∧ m'.last = wmin ((T + 1) * g.per) g.n ∧ m'.pc = 3))
    (hown : 3 ≤ (M k).pc → wdue g Ts' m' + 1 ≤ wdue g Ts (M k)) (hle : (wleft n F' : Int) ≤ wleft n F)
    (hoth : ∀ i, i < 3 → i ≠ k → wdue g Ts' (M i) + 3 * (wleft n F' : Int) ≤ wdue g Ts (M i) + 3 * (wleft n F : Int))
    (hless : (M k).pc < 3 → T' = T → m'.pc < 3 ∧ ((M k).pc = 1 → T < g.parts → m'.pc = 2 ∧ m'.w = cy % 4294967296 * 4294967296 + T) ∧ ((M k).pc = 2 → (M k).w ≠ cy % 4294967296 * 4294967296 + T ∧ m'.pc = 0))
    (hmore : T' = T → 3 ≤ (M k).pc → 3 ≤ m'.pc ∨ m'.pc = 0) : wphi n g cy T' F' Ts' (fset M k (wre m')) + 1 ≤ wphi n g cy T F Ts M := by
  have gw := h.gw
  have hn0 := gw.n0
  rcases hT with hT | ⟨hT, p2, ew, ev, el, ep⟩
  · subst hT
    have hl := hless
    have own : wph g cy T' Ts' (wre m') + 1 ≤ wph g cy T' Ts (M k) := by
      rw [wph_re]
      rcases Nat.lt_or_ge (M k).pc 3 with x | x
      · obtain ⟨a, b, c⟩ := hl x rfl
        have : (M k).pc = 1 ∨ (M k).pc = 2 := by omega
        rcases this with e | e
        · obtain ⟨b1, b2⟩ := b e hlt
          have e1 : wph g cy T' Ts (M k) = 2 := by unfold wph; rw [if_neg (by omega), if_neg (by omega)]
          have e2 : wph g cy T' Ts' m' = 1 := by unfold wph; rw [if_pos b1, if_pos b2]
          omega
        · obtain ⟨c1, c2⟩ := c e
          have e1 : wph g cy T' Ts (M k) = 3 := by unfold wph; rw [if_pos e, if_neg c1]
          have e2 : wph g cy T' Ts' m' = 2 := by unfold wph; rw [if_neg (by omega), if_neg (by omega)]
          omega
      · have e1 : wph g cy T' Ts (M k) = wdue g Ts (M k) + 2 := by unfold wph; rw [if_neg (by omega), if_pos x]
        have hd := hown x
        rcases hmore rfl x with y | y
        · have e2 : wph g cy T' Ts' m' = wdue g Ts' m' + 2 := by unfold wph; rw [if_neg (by omega), if_pos y]
          omega
        · have e2 : wph g cy T' Ts' m' = 2 := by unfold wph; rw [if_neg (by omega), if_neg (by omega)]
          have e3 : wdue g Ts' m' = 0 := by unfold wdue; simp [y]
          omega
    have oth : ∀ i, i < 3 → i ≠ k → wph g cy T' Ts' (M i) ≤ wph g cy T' Ts (M i) + 3 * ((wleft n F : Int) - wleft n F') := fun i hi hne => by
      have := hoth i hi hne
      unfold wph
      by_cases e : (M i).pc = 2
      · rw [if_pos e, if_pos e]; omega
      · rw [if_neg e, if_neg e]
        by_cases e3 : 3 ≤ (M i).pc
        · rw [if_pos e3, if_pos e3]; omega
        · rw [if_neg e3, if_neg e3]; omega
    have := three2 (fun i => wph g cy T' Ts' (fset M k (wre m') i)) (fun i => wph g cy T' Ts (M i)) k hk 1 (3 * ((wleft n F : Int) - wleft n F')) (by rw [fset_same]; exact own) (fun i hi hne => by rw [fset_other _ hne]; exact oth i hi hne)
    unfold wphi
    omega
  · have e1 : wph g cy T Ts (M k) = 1 := by unfold wph; rw [if_pos p2, if_pos ew]
    have e2 : wph g cy T' Ts' (wre m') = 6 * (wmin ((T + 1) * g.per) g.n - T * g.per) + 3 := by
      rw [wph_re]
      have e3 : wph g cy T' Ts' m' = wdue g Ts' m' + 2 := by unfold wph; rw [if_neg (by omega), if_pos (by omega)]
      have e4 : wdue g Ts' m' = 6 * (m'.last - m'.v) + 7 := by unfold wdue; rw [if_pos ep]
      rw [e3, e4, ev, el]; omega
    have oth : ∀ i, i < 3 → i ≠ k → wph g cy T' Ts' (M i) ≤ wph g cy T Ts (M i) + (2 + 3 * ((wleft n F : Int) - wleft n F')) := fun i hi hne => by
      have := hoth i hi hne
      unfold wph
      by_cases e : (M i).pc = 2
      · rw [if_pos e, if_pos e]; split <;> split <;> omega
      · rw [if_neg e, if_neg e]
        by_cases e3 : 3 ≤ (M i).pc
        · rw [if_pos e3, if_pos e3]; omega
        · rw [if_neg e3, if_neg e3]; omega
    have := three2 (fun i => wph g cy T' Ts' (fset M k (wre m') i)) (fun i => wph g cy T Ts (M i)) k hk (-(6 * (wmin ((T + 1) * g.per) g.n - T * g.per) + 2)) (2 + 3 * ((wleft n F : Int) - wleft n F')) (by rw [fset_same, e2, e1]; omega) (fun i hi hne => by rw [fset_other _ hne]; exact oth i hi hne)
    have hnode := part_node gw.per hlt
    have ew1 : wmin (T * g.per) g.n = T * g.per := by unfold wmin; rw [if_pos (by omega)]
    unfold wphi
    rw [ew1, hT]
    rw [hT] at this
    omega
/-- A step, and a new one where it was the last. -/
def wturn (g : Wg) (L : List Int) (m : Wn) : List Int × Wn := ((wstp g L m).1, wre (wstp g L m).2)
theorem SI.go (h : SI n g cy L0 L T F PD Ts Qs M) (hk : k < 3) (h0 : (M k).pc ≠ 0) {p i : Nat} (hn : n ≤ 12) (G : WPG n g cy T F Ts M p i) (hturn : p ≤ i → k = i % 3) :
    ∃ T' F' PD' Ts' Qs', SI n g cy L0 (wturn g L (M k)).1 T' F' PD' Ts' Qs' (fset M k (wturn g L (M k)).2) ∧ SwEv n g cy L0 F F' PD PD' (wstp g L (M k)).2.ek (wstp g L (M k)).2.ea ∧ WPG n g cy T' F' Ts' (fset M k (wturn g L (M k)).2) p (i + 1) := by
  obtain ⟨T', F', PD', Ts', Qs', S, ev, hT, hown, hle, hoth, hless, hmore⟩ := h.step hk
  have S2 := S.again hk
  rw [fset_fset] at S2
  rw [fset_same] at S2
  have gw := h.gw
  have hn0 := gw.n0
  have hper := gw.per
  have hP := parts_pos gw
  have ht' := S.t
  refine ⟨T', F', PD', Ts', Qs', S2, ev, ?_, ?_⟩
  · intro hlt
    have hTlt : T < g.parts := by rcases hT with e | e <;> omega
    have g1 := G.1 hTlt
    have hd := SI.phi h S hk h0 hTlt hT hown hle hoth hless hmore
    show ((i + 1 : Nat) : Int) + wphi n g cy T' F' Ts' (fset M k (wre (wstp g L (M k)).2)) ≤ 240
    omega
  · intro heq k' hk' hact
    have hmi := S2.mi k' hk'
    have hpos : 0 ≤ wphi n g cy T F Ts M := by
      have a0 := (wph_nn (h.mi 0 (by omega))).1
      have a1 := (wph_nn (h.mi 1 (by omega))).1
      have a2 := (wph_nn (h.mi 2 (by omega))).1
      have ht := h.t
      have hw : wmin (T * g.per) g.n ≤ g.n := by unfold wmin; split <;> omega
      unfold wphi; omega
    by_cases hTl : T < g.parts
    · have g1 := G.1 hTl
      have b1 := hmi.due9 hn0 hper
      have b2 := wleft_le (F := F') n
      show (if i + 1 < p then (p : Int) + 2 else ((i + 1 : Nat) : Int) + (((k' : Int) - ((i + 1 : Nat) : Int)) % 3)) + 3 * (wdue g Ts' (fset M k (wre (wstp g L (M k)).2) k') + 3 * (wleft n F' : Int)) ≤ p + 599
      have b1 : wdue g Ts' (fset M k (wre (wstp g L (M k)).2) k') ≤ 6 * n + 1 := b1
      split <;> omega
    · have hTP : T = g.parts := by have := h.t; omega
      have hTT : T' = T := by omega
      have g2 := G.2 hTP
      show (if i + 1 < p then (p : Int) + 2 else ((i + 1 : Nat) : Int) + (((k' : Int) - ((i + 1 : Nat) : Int)) % 3)) + 3 * (wdue g Ts' (fset M k (wre (wstp g L (M k)).2) k') + 3 * (wleft n F' : Int)) ≤ p + 599
      have hact : 3 ≤ (fset M k (wre (wstp g L (M k)).2) k').pc := hact
      by_cases e : k' = k
      · subst e
        rw [fset_same] at hact ⊢
        rw [wdue_re]
        have h3 := (wre_pc _).1 hact
        have h4 : 3 ≤ (M k').pc := by
          rcases Nat.lt_or_ge (M k').pc 3 with x | x
          · have := (hless x hTT).1; omega
          · exact x
        have := g2 k' hk' h4
        have := hown h4
        by_cases hip : i < p
        · rw [if_pos hip] at *
          split <;> omega
        · have ht := hturn (by omega)
          rw [if_neg hip] at *
          rw [if_neg (by omega)]
          omega
      · rw [fset_other _ e] at hact ⊢
        have := g2 k' hk' hact
        have := hoth k' hk' e
        by_cases hip : i < p
        · rw [if_pos hip] at *
          split <;> omega
        · have ht := hturn (by omega)
          rw [if_neg hip] at *
          rw [if_neg (by omega)]
          omega
/-- Everybody is done. -/
theorem SI.over (h : SI n g cy L0 L T F PD Ts Qs M) {p : Nat} (G : WPG n g cy T F Ts M p (p + 600)) : T = g.parts ∧ (∀ j : Int, 0 ≤ j → j < g.parts → PD j = true) ∧ (∀ v : Int, 1 ≤ v → v ≤ n → F v = 2) := by
  have ht := h.t
  have hTP : T = g.parts := by
    rcases Int.lt_or_le T g.parts with x | x
    · have g1 := G.1 x
      have a0 := (wph_nn (h.mi 0 (by omega))).1
      have a1 := (wph_nn (h.mi 1 (by omega))).1
      have a2 := (wph_nn (h.mi 2 (by omega))).1
      have hw : wmin (T * g.per) g.n ≤ g.n := by unfold wmin; split <;> omega
      unfold wphi at g1; omega
    · omega
  have hno : ∀ k, k < 3 → ¬ 3 ≤ (M k).pc := fun k hk ha => by
    have := G.2 hTP k hk ha
    have := (h.mi k hk).due0
    rw [if_neg (by omega)] at *
    omega
  have hpd : ∀ j : Int, 0 ≤ j → j < g.parts → PD j = true := fun j a b => by
    cases hb : PD j with
    | true => rfl
    | false =>
      obtain ⟨k, hk, p3, _⟩ := h.ow j a (by omega) hb
      exact absurd p3 (hno k hk)
  refine ⟨hTP, hpd, fun v a b => ?_⟩
  have hin := pt_ex h.gw.per v
  have hj := node_part h.gw.per hin a (by rw [h.gw.n0]; exact b)
  exact (h.pd _ (hpd _ hj.1 hj.2)).2 v a b hin
/-- At first. -/
theorem SI.begin (G : Gw n L.length g) (hs : L.getD g.sw.toNat 0 = cy % 4294967296 * 4294967296) (hd : L.getD g.dn.toNat 0 = 0) (hk : ∀ c, c < 5 → L.getD (g.hk c).head.toNat 0 = 0) : SI n g cy L L 0 (fun _ => 0) (fun _ => false) (fun _ => 0) (fun _ => []) (fun _ => wNew cy) := by
  have hP := parts_pos G
  refine ⟨G, rfl, by rw [hs]; omega, by omega, fun _ _ _ => rfl, fun _ _ _ _ => rfl, fun _ _ _ e => absurd rfl e, fun _ _ _ => by omega, fun c hc => ⟨⟨G.k c hc, by omega, by omega, by rw [hk c hc]; rfl, fun q hq => by simp at hq, List.nodup_nil, rfl⟩, rfl⟩, fun c hc v => ?_, fun j hj => (by cases hj), fun _ _ _ _ _ _ => rfl, fun j a b _ => by omega, fun k hk => ⟨rfl, by simp [wNew], fun e => by simp [wNew] at e, fun e => by simp [wNew] at e, fun e => by simp [wNew] at e, fun e => by simp [wNew] at e, fun e => by simp [wNew] at e, fun e => by simp [wNew] at e, fun e => by simp [wNew] at e, fun e => by simp [wNew] at e⟩, fun k i _ _ _ e => by simp [wNew] at e, ?_⟩
  · constructor
    · intro hq; simp at hq
    · intro hq; have := hq.2.1; omega
  · rw [hd]; simp
theorem wpg_begin (G : Gw n L.length g) (hn : n ≤ 12) (p : Nat) : WPG n g cy 0 (fun _ => 0) (fun _ => 0) (fun _ => wNew cy) p 0 := by
  have hP := parts_pos G
  have hl := wleft_le (F := fun _ => 0) n
  have hn0 := G.n0
  refine ⟨fun _ => ?_, fun e => by omega⟩
  have e : ∀ m : Wn, m = wNew cy → wph g cy 0 (fun _ => 0) m = 2 := fun m hm => by subst hm; simp [wph, wNew]
  have hw : 0 ≤ wmin (0 * g.per) g.n := by unfold wmin; rw [Int.zero_mul]; split <;> omega
  unfold wphi
  rw [e _ rfl]
  omega
end
end Go.Proofs.Ytbpkcoemehmpbaa
