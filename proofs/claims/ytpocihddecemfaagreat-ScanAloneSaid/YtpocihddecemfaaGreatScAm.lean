/- A task that is done, while others mark nodes: each step. -/
import Derived.Test.YtpocihddecemfaaGreatJ24
namespace Go.Proofs.YtpocihddecemfaaGreat
set_option linter.unusedVariables false
set_option linter.unusedSimpArgs false

/-- Nothing is under way; d: how many tasks are begun next. -/
structure SB (k : Zk) (L : List Int) (i : Int) (A d : Nat) (m : Zm) (s : Int) (K : List Int) (P : Int → Prop) : Prop where
  ok : k.Ok L.length
  wds : Wds k L K P
  mv : m.v = k.v ∧ m.fr = k.b ∧ m.cy = k.cy
  ats : m.at' = s ∧ m.to = k.T
  sb : k.b ≤ s ∧ s ≤ k.T
  dn : ∀ j, k.b ≤ j → j < s → k.nd (k.W j) → k.W j ∈ K ∨ P (k.W j) ∨ k.cy ≤ k.M0 (k.W j)
  kw : (∀ u, ¬ P u) → K = wlist k (s - k.b).toNat
  kn : K.Nodup ∧ ∀ u ∈ K, 1 ≤ u ∧ u ≤ k.z.nn ∧ k.M0 u < k.cy
  kl : K.length ≤ s - k.b
  wk : L.getD k.z.wk.toNat 0 = (k.w0 + K.length + k.more) % 18446744073709551616
  aa : ∃ a ra, a.pc = 0 ∧ A1 k.n k.r k.g k.e L i A a ra
  cnt : (A : Int) + d ≤ k.A0 + K.length + k.more
section
variable {k : Zk} {L : List Int} {i rk : Int} {A : Nat} {m : Zm} {s : Int} {K : List Int} {P : Int → Prop}
theorem SB.rest {d : Nat} (h : SB k L i A d m s K P) (hr : 15 * (k.T - s) + 1 ≤ rk) : SC k L i A (zrest m) s K P rk := by
  obtain ⟨a, ra, ha, hA⟩ := h.aa
  have hcnt := h.cnt
  by_cases hlt : s < k.T
  · have e : zrest m = { m with pc := 4 } := by unfold zrest; rw [h.ats.1, h.ats.2, if_pos hlt]
    rw [e]
    exact ⟨h.ok, h.wds, h.mv, by simp, h.sb, fun _ => h.ats, fun e => by simp at e, fun e => by simp at e, fun _ => hlt, fun e => by simp at e, fun e => by simp at e, h.dn, h.kw, h.kn, h.kl, by rw [h.wk]; simp [wsum], ⟨0, hA.idle ha (by simp [amOf, aIdle]), by simp [zd]; omega⟩, fun e => by simp at e, by simp; omega⟩
  · have e : zrest m = { m with pc := 6 } := by unfold zrest; rw [h.ats.1, h.ats.2, if_neg hlt]
    have hs : s = k.T := by have := h.sb; omega
    rw [e]
    exact ⟨h.ok, h.wds, h.mv, by simp, h.sb, fun _ => h.ats, fun e => by simp at e, fun e => by simp at e, fun e => by simp at e, fun _ => hs, fun e => by simp at e, h.dn, h.kw, h.kn, h.kl, by rw [h.wk]; simp [wsum], ⟨0, hA.idle ha (by simp [amOf, aIdle]), by simp [zd]; omega⟩, fun e => by simp at e, by simp; omega⟩
theorem SB.give (h : SB k L i A 1 m s K P) (x y : Int) (hr : 11 + 15 * (k.T - s) ≤ rk) : SC k L i (A + 1) (zgive (aNew k.e) m x y) s K P rk := by
  obtain ⟨a, ra, ha, hA⟩ := h.aa
  have hcnt := h.cnt
  have hq := h.ok.hq K h.kn.1 h.kn.2
  have hc := h.ok.cap
  have hm := h.ok.more01
  exact ⟨h.ok, h.wds, h.mv, by simp [zgive], h.sb, fun _ => h.ats, fun e => by simp [zgive] at e, fun e => by simp [zgive] at e, fun e => by simp [zgive] at e, fun e => by simp [zgive] at e, fun e => by simp [zgive] at e, h.dn, h.kw, h.kn, h.kl, by rw [h.wk]; simp [wsum, zgive], ⟨10, hA.new ha (by omega) (by omega), by simp [zd, zgive]; omega⟩, fun _ => by simp [zgive, aNew], by simp [zgive]; omega⟩
theorem adc_len (L : List Int) (p d : Int) : (adc L p d).length = L.length := pc_len ..
theorem adc_wk {N : Nat} (ok : k.Ok N) (hN : N = L.length) (d : Int) : (adc L k.z.wk d).getD k.z.wk.toNat 0 = (L.getD k.z.wk.toNat 0 + d) % 18446744073709551616 := by
  subst hN
  unfold adc
  rw [pc_same ⟨ok.wk.1, ok.wk.2.1⟩, lc_in ⟨ok.wk.1, ok.wk.2.1⟩]
theorem adc_other {d q : Int} (h0 : 0 ≤ q) (h : q ≠ k.z.wk) : (adc L k.z.wk d).getD q.toNat 0 = L.getD q.toNat 0 := pc_other h0 h
theorem Wds.add (ok : k.Ok L.length) (h : Wds k L K P) (d : Int) : Wds k (adc L k.z.wk d) K P := h.frame ok fun q h0 h1 _ _ => adc_other h0 h1
theorem A1.add {a : Am} {ra : Int} (ok : k.Ok L.length) (h : A1 k.n k.r k.g k.e L i A a ra) (d : Int) : A1 k.n k.r k.g k.e (adc L k.z.wk d) i A a ra :=
  h.same (adc_len ..) fun q h0 hq => adc_other h0 fun e => by subst e; rcases hq with x | x; exact ok.wk.2.2.1 x; exact ok.wk.2.2.2 x
theorem wlist_no {t : Nat} (h : ¬ (1 ≤ k.W (k.b + t) ∧ k.W (k.b + t) ≤ k.z.nn ∧ k.M0 (k.W (k.b + t)) < k.cy) ∨ k.W (k.b + t) ∈ wlist k t) : wlist k (t + 1) = wlist k t := by
  show (if _ then _ else _) = _
  rw [if_neg]
  rintro ⟨a, b⟩
  rcases h with h | h
  · exact h a
  · exact b h
theorem wlist_yes {t : Nat} (h : 1 ≤ k.W (k.b + t) ∧ k.W (k.b + t) ≤ k.z.nn ∧ k.M0 (k.W (k.b + t)) < k.cy) (h2 : k.W (k.b + t) ∉ wlist k t) : wlist k (t + 1) = wlist k t ++ [k.W (k.b + t)] := by
  show (if _ then _ else _) = _
  rw [if_pos ⟨h, h2⟩]
/-- What a step leaves. -/
def ScStep (k : Zk) (L : List Int) (i : Int) (A : Nat) (m : Zm) (s : Int) (K : List Int) (P : Int → Prop) (rk : Int) (L' : List Int) (m' : Zm) : Prop :=
  (∃ A' s' K', SC k L' (i + 1) A' m' s' K' P (rk - 1) ∧ ScEv k s s' K K' m m') ∧ ((m'.ek = 2 → fvZ k m' = k.T) ∧ (m'.ek ≠ 2 → fvZ k m' = fvZ k m))
theorem rest_fv {m : Zm} (h : m.pc ≠ 1 ∧ m.pc ≠ 2 ∨ ¬ k.T < k.z.room k.v) {m' : Zm} (h' : m'.pc ≠ 1 ∧ m'.pc ≠ 2) : fvZ k m' = fvZ k m := by
  unfold fvZ
  rw [if_neg (by omega)]
  by_cases hm : m.pc = 1 ∨ m.pc = 2
  · rw [if_pos hm, if_neg (by omega)]
  · rw [if_neg hm]
theorem zrest_pc (m : Zm) : (zrest m).pc = 4 ∨ (zrest m).pc = 6 := by unfold zrest; simp only; split <;> simp
theorem zr12 (m : Zm) : (zrest m).pc ≠ 1 ∧ (zrest m).pc ≠ 2 ∧ (zrest m).pc ≠ 0 := by have := zrest_pc m; omega
theorem step_head (h : SC k L i A m s K P rk) (p : m.pc = 1) : ScStep k L i A m s K P rk (zstp k.z k.g (aNew k.e) L m).1 (zstp k.z k.g (aNew k.e) L m).2 := by
  obtain ⟨m0, hm0⟩ : ∃ m0 : Zm, m0 = { m with ek := 0, ea := 0, eb := 0 } := ⟨_, rfl⟩
  have e : zstp k.z k.g (aNew k.e) L m = (L, zhead k.z L m0) := by rw [hm0]; simp [zstp, p]
  rw [e]
  obtain ⟨hs, hK⟩ := h.s1 (.inl p)
  obtain ⟨mv, mf, mc⟩ := h.mv
  have hn : zn k.z L k.v = k.z.room k.v := by
    unfold zn
    rw [if_pos h.ok.v0, lc_in ⟨h.ok.hd.1, h.ok.hd.2.1⟩, h.wds.hd, if_neg (by omega)]
  have b0 := h.ok.b0
  have hT := h.ok.T0
  have hb : (if k.z.room k.v < k.b then k.z.room k.v else k.b) = k.b := by rw [if_neg (by omega)]
  have eh : zhead k.z L m0 = { m0 with at' := k.b, «to» := k.T, pc := if k.T < k.z.room k.v then 2 else if k.b < k.T then 4 else 6 } := by
    unfold zhead
    subst hm0
    simp only [mv, mf, hn, hb, ← hT]
  rw [eh]
  obtain ⟨ra, ha, hz⟩ := h.aa
  have wk := h.wk
  have cnt := h.cnt
  have hal : amOf m = aIdle := by unfold amOf; rw [if_neg (by omega)]
  rw [hal] at ha
  have hz' : 13 + 15 * (k.T - s) ≤ rk := by simp [zd, p] at hz; omega
  have hws : wsum k m K = k.w0 + K.length := by simp [wsum, p]
  rw [hws] at wk
  have hcnt : (A : Int) ≤ k.A0 + K.length := by simpa [p] using cnt
  have hsd : sdone m s = s := by simp [sdone, p]
  have dn := h.dn; have kw := h.kw; have kl := h.kl
  rw [hsd] at dn kw kl
  by_cases hlt : k.T < k.z.room k.v
  · rw [if_pos hlt]
    have hm : k.more = 1 := by rw [h.ok.mo, if_pos hlt]
    refine ⟨⟨A, s, K, ⟨h.ok, h.wds, by subst hm0; exact h.mv, by simp, h.sb, fun _ => by simp only [hs, and_self], fun _ => ⟨hs, hK⟩, fun _ => hlt, fun e => by simp at e, fun e => by simp at e, fun e => by simp at e, dn, kw, h.kn, kl, by rw [wk]; simp [wsum], ⟨0, (ha.more (by omega) (Int.le_refl _)).idle rfl (by simp [amOf, aIdle]), by simp [zd]; omega⟩, fun e => by simp at e, by simpa using hcnt⟩, ?_⟩, ?_, ?_⟩
    · exact .inr (.inr (.inr (.inl ⟨by subst hm0; rfl, by simp, rfl, rfl⟩)))
    · subst hm0; intro e; simp at e
    · intro _; simp [fvZ, p]
  · rw [if_neg hlt]
    have hm : k.more = 0 := by rw [h.ok.mo, if_neg hlt]
    have hB : SB k L (i + 1) A 0 { m0 with at' := k.b, «to» := k.T } s K P := by
      refine ⟨h.ok, h.wds, by subst hm0; exact h.mv, ⟨hs.symm, rfl⟩, h.sb, dn, kw, h.kn, kl, by rw [wk, hm]; simp, ⟨aIdle, ra, rfl, ha.more (by omega) (Int.le_refl _)⟩, by rw [hm]; simpa using hcnt⟩
    have hR := hB.rest (rk := rk - 1) (by omega)
    have er : zrest { m0 with at' := k.b, «to» := k.T } = { m0 with at' := k.b, «to» := k.T, pc := if k.b < k.T then 4 else 6 } := rfl
    rw [← er]
    refine ⟨⟨A, s, K, hR, ?_⟩, ?_, fun _ => ?_⟩
    · exact .inr (.inr (.inr (.inl ⟨by subst hm0; rfl, (zr12 _).2.2, rfl, rfl⟩)))
    · subst hm0; intro e; simp [zrest] at e
    · exact rest_fv (.inr hlt) ⟨(zr12 _).1, (zr12 _).2.1⟩
theorem step_count (h : SC k L i A m s K P rk) (p : m.pc = 2) : ScStep k L i A m s K P rk (zstp k.z k.g (aNew k.e) L m).1 (zstp k.z k.g (aNew k.e) L m).2 := by
  obtain ⟨m0, hm0⟩ : ∃ m0 : Zm, m0 = { m with ek := 2, ea := m.v, eb := m.to } := ⟨_, rfl⟩
  have e : zstp k.z k.g (aNew k.e) L m = (adc L k.z.wk 1, zgive (aNew k.e) m0 m.v m.to) := by rw [hm0]; simp [zstp, p]
  rw [e]
  obtain ⟨hs, hK⟩ := h.s1 (.inr p)
  have hlt := h.s2 p
  have hm : k.more = 1 := by rw [h.ok.mo, if_pos hlt]
  obtain ⟨ra, ha, hz⟩ := h.aa
  have wk := h.wk
  have cnt := h.cnt
  have hal : amOf m = aIdle := by unfold amOf; rw [if_neg (by omega)]
  rw [hal] at ha
  have hz' : 12 + 15 * (k.T - s) ≤ rk := by simp [zd, p] at hz; omega
  have hws : wsum k m K = k.w0 + K.length := by simp [wsum, p]
  rw [hws] at wk
  have hcnt : (A : Int) ≤ k.A0 + K.length := by simpa [p] using cnt
  have hsd : sdone m s = s := by simp [sdone, p]
  have dn := h.dn; have kw := h.kw; have kl := h.kl
  rw [hsd] at dn kw kl
  have hat := h.ats (by omega)
  have hB : SB k (adc L k.z.wk 1) (i + 1) A 1 m0 s K P := by
    refine ⟨by rw [adc_len]; exact h.ok, h.wds.add h.ok 1, by subst hm0; exact h.mv, by subst hm0; exact hat, h.sb, dn, kw, h.kn, kl, ?_, ⟨aIdle, ra, rfl, (ha.more (by omega) (Int.le_refl _)).add h.ok 1⟩, by rw [hm]; omega⟩
    rw [adc_wk h.ok rfl, wk, hm]; omega
  refine ⟨⟨A + 1, s, K, hB.give m.v m.to (by omega), .inr (.inr (.inl ⟨by subst hm0; rfl, by simp [zgive], by subst hm0; exact h.mv.1, by subst hm0; exact hat.2, rfl, rfl⟩))⟩, fun _ => ?_, ?_⟩
  · simp [fvZ, zgive, hlt]
  · subst hm0; intro e; exact absurd rfl e
theorem step_add (h : SC k L i A m s K P rk) (p : m.pc = 3) (hi : i + 1 < 100000) : ScStep k L i A m s K P rk (zstp k.z k.g (aNew k.e) L m).1 (zstp k.z k.g (aNew k.e) L m).2 := by
  obtain ⟨m0, hm0⟩ : ∃ m0 : Zm, m0 = { m with ek := 0, ea := 0, eb := 0, d := (astp k.g L m.d).2 } := ⟨_, rfl⟩
  have e : zstp k.z k.g (aNew k.e) L m = ((astp k.g L m.d).1, if (astp k.g L m.d).2.pc = 0 then zrest m0 else m0) := by rw [hm0]; simp [zstp, p]
  rw [e]
  obtain ⟨ra, ha, hz⟩ := h.aa
  have hal : amOf m = m.d := by unfold amOf; rw [if_pos p]
  rw [hal] at ha
  have hz' : ra + 15 * (k.T - s) + 1 ≤ rk := by simp [zd, p] at hz; omega
  obtain ⟨sA, sl, sf⟩ := ha.step (h.d3 p) hi
  have wk := h.wk
  have hws : wsum k m K = k.w0 + K.length + k.more := by simp [wsum, p]
  rw [hws] at wk
  have hcnt : (A : Int) ≤ k.A0 + K.length + k.more := by simpa [p] using h.cnt
  have hsd : sdone m s = s := by simp [sdone, p]
  have dn := h.dn; have kw := h.kw; have kl := h.kl
  rw [hsd] at dn kw kl
  have hat := h.ats (by omega)
  have hwds := h.wds.frame h.ok (L' := (astp k.g L m.d).1) fun q h0 _ h1 h2 => sf q h0 h1 h2
  have hwk : (astp k.g L m.d).1.getD k.z.wk.toNat 0 = (k.w0 + K.length + k.more) % 18446744073709551616 := by
    rw [sf _ h.ok.wk.1 h.ok.wk.2.2.1 h.ok.wk.2.2.2]; exact wk
  have hok : k.Ok (astp k.g L m.d).1.length := by rw [sl]; exact h.ok
  generalize astp k.g L m.d = y at *
  obtain ⟨L', d'⟩ := y
  dsimp only at *
  by_cases hq : d'.pc = 0
  · rw [if_pos hq]
    have r1 : 0 ≤ ra - 1 := by
      have := ha.left (h.d3 p); omega
    have hB : SB k L' (i + 1) A 0 m0 s K P := ⟨hok, hwds, by subst hm0; exact h.mv, by subst hm0; exact hat, h.sb, dn, kw, h.kn, kl, hwk, ⟨d', ra - 1, hq, sA⟩, by omega⟩
    refine ⟨⟨A, s, K, hB.rest (by omega), .inr (.inr (.inr (.inl ⟨by subst hm0; rfl, (zr12 _).2.2, rfl, rfl⟩)))⟩, ?_, fun _ => rest_fv (.inl ⟨by omega, by omega⟩) ⟨(zr12 _).1, (zr12 _).2.1⟩⟩
    subst hm0; intro e; simp [zrest] at e
  · rw [if_neg hq]
    refine ⟨⟨A, s, K, ⟨hok, hwds, by subst hm0; exact h.mv, by subst hm0; exact h.pc, h.sb, fun _ => by subst hm0; exact hat, fun e => ?_, fun e => ?_, fun e => ?_, fun e => ?_, fun e => ?_, ?_, ?_, h.kn, ?_, ?_, ⟨ra - 1, ?_, ?_⟩, fun _ => by subst hm0; exact hq, ?_⟩, .inr (.inr (.inr (.inl ⟨by subst hm0; rfl, by subst hm0; simp only; omega, rfl, rfl⟩)))⟩, ?_, fun _ => rest_fv (.inl ⟨by omega, by omega⟩) (by subst hm0; simp only; omega)⟩
    · subst hm0; simp only at e; omega
    · subst hm0; simp only at e; omega
    · subst hm0; simp only at e; omega
    · subst hm0; simp only at e; omega
    · subst hm0; simp only at e; omega
    · subst hm0; simp only [sdone, p]; exact dn
    · subst hm0; simp only [sdone, p]; exact kw
    · subst hm0; simp only [sdone, p]; exact kl
    · subst hm0; rw [hwk]; simp [wsum, p]
    · subst hm0; simp only [amOf, p, if_true]; exact sA
    · subst hm0; simp [zd, p]; omega
    · subst hm0; simp [p]; omega
    · subst hm0; intro e; simp at e
theorem step_last (h : SC k L i A m s K P rk) (p : m.pc = 6) : ScStep k L i A m s K P rk (zstp k.z k.g (aNew k.e) L m).1 (zstp k.z k.g (aNew k.e) L m).2 := by
  obtain ⟨m0, hm0⟩ : ∃ m0 : Zm, m0 = { m with ek := 4, ea := m.v, eb := m.fr, pc := 0 } := ⟨_, rfl⟩
  have e : zstp k.z k.g (aNew k.e) L m = (adc L k.z.wk 18446744073709551615, m0) := by rw [hm0]; simp [zstp, p]
  rw [e]
  obtain ⟨ra, ha, hz⟩ := h.aa
  have hal : amOf m = aIdle := by unfold amOf; rw [if_neg (by omega)]
  rw [hal] at ha
  have hz' : 1 ≤ rk := by simp [zd, p] at hz; omega
  have wk := h.wk
  have hws : wsum k m K = k.w0 + K.length + k.more := by simp [wsum, p]
  rw [hws] at wk
  have hcnt : (A : Int) ≤ k.A0 + K.length + k.more := by simpa [p] using h.cnt
  have hsd : sdone m s = s := by simp [sdone, p]
  have dn := h.dn; have kw := h.kw; have kl := h.kl
  rw [hsd] at dn kw kl
  have hat := h.ats (by omega)
  have hs := h.s6 (.inl p)
  refine ⟨⟨A, s, K, ⟨by rw [adc_len]; exact h.ok, h.wds.add h.ok _, by subst hm0; exact h.mv, by subst hm0; simp, h.sb, fun _ => by subst hm0; exact hat, fun e => by subst hm0; simp at e, fun e => by subst hm0; simp at e, fun e => by subst hm0; simp at e, fun _ => hs, fun e => by subst hm0; simp at e, by subst hm0; exact dn, by subst hm0; exact kw, h.kn, by subst hm0; exact kl, ?_, ⟨0, (((ha.more (by omega) (Int.le_refl _)).add h.ok _).idle rfl (by subst hm0; simp [amOf, aIdle])), by subst hm0; simp [zd]; omega⟩, fun e => by subst hm0; simp at e, by subst hm0; simp; omega⟩,
    .inr (.inr (.inr (.inr ⟨by subst hm0; rfl, by subst hm0; rfl, rfl, rfl⟩)))⟩, ?_, fun _ => rest_fv (.inl ⟨by omega, by omega⟩) (by subst hm0; simp)⟩
  · rw [adc_wk h.ok rfl, wk]; subst hm0; simp [wsum]
  · subst hm0; intro e; simp at e
theorem toNat_succ {a b : Int} (h : b ≤ a) : (a + 1 - b).toNat = (a - b).toNat + 1 := by omega
theorem wl_at {a b : Int} (h : b ≤ a) : b + (((a - b).toNat : Nat) : Int) = a := by omega
theorem step_slot (h : SC k L i A m s K P rk) (p : m.pc = 4) : ScStep k L i A m s K P rk (zstp k.z k.g (aNew k.e) L m).1 (zstp k.z k.g (aNew k.e) L m).2 := by
  obtain ⟨m0, hm0⟩ : ∃ m0 : Zm, m0 = { m with ek := 3, ea := m.v, eb := m.at', at' := m.at' + 1 } := ⟨_, rfl⟩
  have hat := h.ats (by omega)
  have hs := h.s4 p
  have b0 := h.ok.b0; have sb := h.sb; have T1 := h.ok.T1
  have hx : ldc L (k.z.sl m.v m.at') = k.W s := by
    obtain ⟨a, a1, _⟩ := h.ok.sl s (by omega) (by omega)
    rw [h.mv.1, hat.1, lc_in ⟨a, a1⟩, h.wds.sl s (by omega) (by omega)]
  obtain ⟨ra, ha, hz⟩ := h.aa
  have hal : amOf m = aIdle := by unfold amOf; rw [if_neg (by omega)]
  rw [hal] at ha
  have hz' : 15 * (k.T - s) + 1 ≤ rk := by simp [zd, p] at hz; omega
  have wk := h.wk
  have hws : wsum k m K = k.w0 + K.length + k.more := by simp [wsum, p]
  rw [hws] at wk
  have hcnt : (A : Int) ≤ k.A0 + K.length + k.more := by simpa [p] using h.cnt
  have hsd : sdone m s = s := by simp [sdone, p]
  have dn := h.dn; have kw := h.kw; have kl := h.kl
  rw [hsd] at dn kw kl
  by_cases hn : 1 ≤ k.W s ∧ k.W s ≤ k.z.nn
  · have e : zstp k.z k.g (aNew k.e) L m = (L, { m0 with w := k.W s, c := cNew (k.z.ma (k.W s)) m.cy, pc := 5 }) := by
      have : zstp k.z k.g (aNew k.e) L m = (L, if 1 ≤ ldc L (k.z.sl m.v m.at') ∧ ldc L (k.z.sl m.v m.at') ≤ k.z.nn then { m0 with w := ldc L (k.z.sl m.v m.at'), c := cNew (k.z.ma (ldc L (k.z.sl m.v m.at'))) m.cy, pc := 5 } else zrest m0) := by rw [hm0]; simp [zstp, p]
      rw [this, hx, if_pos hn]
    rw [e]
    have hw : (s + 1 - 1 : Int) = s := by omega
    refine ⟨⟨A, s + 1, K, ⟨h.ok, h.wds, by subst hm0; exact h.mv, by simp, ⟨by omega, by omega⟩, fun _ => by subst hm0; exact ⟨by simp only; omega, hat.2⟩, fun e => by simp at e, fun e => by simp at e, fun e => by simp at e, fun e => by simp at e, fun _ => ⟨by omega, by simp only [hw], hn, by simp [cNew], by simp [cNew], rfl, by subst hm0; exact h.mv.2.2, rfl, fun e => by simp [cNew] at e, fun e => by simp [cNew] at e⟩, ?_, ?_, h.kn, ?_, ?_, ⟨0, (ha.more (by omega) (Int.le_refl _)).idle rfl (by simp [amOf, aIdle]), ?_⟩, fun e => by simp at e, by simp; omega⟩, ?_⟩, ?_, ?_⟩
    · simp only [sdone, if_true, hw]; exact dn
    · simp only [sdone, if_true, hw]; exact kw
    · simp only [sdone, if_true, hw]; exact kl
    · rw [wk]; simp [wsum, cNew]
    · simp [zd, cNew]; omega
    · exact .inr (.inl ⟨by subst hm0; rfl, by simp, by subst hm0; exact h.mv.1, by subst hm0; exact hat.1, hs, rfl, rfl⟩)
    · subst hm0; intro e; simp at e
    · exact fun _ => rest_fv (.inl ⟨by omega, by omega⟩) (by simp)
  · have e : zstp k.z k.g (aNew k.e) L m = (L, zrest m0) := by
      have : zstp k.z k.g (aNew k.e) L m = (L, if 1 ≤ ldc L (k.z.sl m.v m.at') ∧ ldc L (k.z.sl m.v m.at') ≤ k.z.nn then { m0 with w := ldc L (k.z.sl m.v m.at'), c := cNew (k.z.ma (ldc L (k.z.sl m.v m.at'))) m.cy, pc := 5 } else zrest m0) := by rw [hm0]; simp [zstp, p]
      rw [this, hx, if_neg hn]
    rw [e]
    have hB : SB k L (i + 1) A 0 m0 (s + 1) K P := by
      refine ⟨h.ok, h.wds, by subst hm0; exact h.mv, by subst hm0; exact ⟨by simp only; omega, hat.2⟩, ⟨by omega, by omega⟩, fun j h0 h1 h2 => ?_, fun hP => ?_, h.kn, by omega, wk, ⟨aIdle, ra, rfl, ha.more (by omega) (Int.le_refl _)⟩, by omega⟩
      · by_cases hj : j = s
        · subst hj; exact absurd h2 hn
        · exact dn j h0 (by omega) h2
      · rw [toNat_succ sb.1, wlist_no (.inl ?_), kw hP]
        rw [wl_at sb.1]; exact fun x => hn ⟨x.1, x.2.1⟩
    refine ⟨⟨A, s + 1, K, hB.rest (by omega), .inr (.inl ⟨by subst hm0; rfl, (zr12 _).2.2, by subst hm0; exact h.mv.1, by subst hm0; exact hat.1, hs, rfl, rfl⟩)⟩, ?_, fun _ => rest_fv (.inl ⟨by omega, by omega⟩) ⟨(zr12 _).1, (zr12 _).2.1⟩⟩
    subst hm0; intro e; simp [zrest] at e
theorem step_claim (h : SC k L i A m s K P rk) (p : m.pc = 5) : ScStep k L i A m s K P rk (zstp k.z k.g (aNew k.e) L m).1 (zstp k.z k.g (aNew k.e) L m).2 := by
  have e : zstp k.z k.g (aNew k.e) L m = ((cstp k.z.wk L m.c).1, if (cstp k.z.wk L m.c).2.pc ≠ 0 then { m with ek := 0, ea := 0, eb := 0, c := (cstp k.z.wk L m.c).2 }
        else if (cstp k.z.wk L m.c).2.won = true then zgive (aNew k.e) { zrest { m with ek := 0, ea := 0, eb := 0, c := (cstp k.z.wk L m.c).2 } with ek := 1, ea := m.w } m.w 0
        else zrest { m with ek := 0, ea := 0, eb := 0, c := (cstp k.z.wk L m.c).2 }) := by simp [zstp, p]
  rw [e]
  have hat := h.ats (by omega)
  have b0 := h.ok.b0; have sb := h.sb; have T1 := h.ok.T1
  obtain ⟨c1, c2, c3, c4, c6, c7, c8, c9, c10, c11⟩ := h.c5 p
  obtain ⟨u, hu⟩ : ∃ u, u = m.w := ⟨_, rfl⟩
  obtain ⟨ra, ha, hz⟩ := h.aa
  have hal : amOf m = aIdle := by unfold amOf; rw [if_neg (by omega)]
  rw [hal] at ha
  have hz' : 16 - (m.c.pc : Int) + 15 * (k.T - s) ≤ rk := by simp [zd, p] at hz; omega
  have wk := h.wk
  have hws : wsum k m K = k.w0 + K.length + k.more + (if 3 ≤ m.c.pc then 1 else 0) := by simp [wsum, p]
  rw [hws] at wk
  have hcnt : (A : Int) ≤ k.A0 + K.length + k.more := by simpa [p] using h.cnt
  have hsd : sdone m s = s - 1 := by simp [sdone, p]
  have dn := h.dn; have kw := h.kw; have kl := h.kl
  rw [hsd] at dn kw kl
  obtain ⟨pa, pa1, pE, pP, pw, _⟩ := h.ok.ma m.w c3.1 c3.2
  have hld : ldc L m.c.p = L.getD (k.z.ma m.w).toNat 0 := by rw [c7, lc_in ⟨pa, pa1⟩]
  have hma := h.wds.ma m.w c3
  have hx1 : (s - 1 + 1 - k.b).toNat = (s - 1 - k.b).toNat + 1 := toNat_succ (by omega)
  have hx2 : (s - 1 + 1 : Int) = s := by omega
  rw [hx2] at hx1
  have hx3 : k.W (k.b + (((s - 1 - k.b).toNat : Nat) : Int)) = m.w := by rw [wl_at (by omega)]; exact c2.symm
  have dn2 : (m.w ∈ K ∨ P m.w ∨ k.cy ≤ k.M0 m.w) → ∀ j, k.b ≤ j → j < s → k.nd (k.W j) → k.W j ∈ K ∨ P (k.W j) ∨ k.cy ≤ k.M0 (k.W j) := fun hh j h0 h1 h2 => by
    by_cases hj : j = s - 1
    · rw [hj, ← c2]; exact hh
    · exact dn j h0 (by omega) h2
  -- it goes on
  have on : ∀ (c' : Cm) (L' : List Int), c'.p = m.c.p → c'.cy = m.c.cy → c'.won = false → 1 ≤ c'.pc → c'.pc ≤ 4 → m.c.pc < c'.pc → (c'.k = k.M0 m.w ∧ k.M0 m.w < k.cy ∧ m.w ∉ K) → (c'.pc = 4 → P m.w) → k.Ok L'.length → Wds k L' K P →
      L'.getD k.z.wk.toNat 0 = (k.w0 + K.length + k.more + (if 3 ≤ c'.pc then 1 else 0)) % 18446744073709551616 → A1 k.n k.r k.g k.e L' (i + 1) A aIdle 0 → ScStep k L i A m s K P rk L' { m with ek := 0, ea := 0, eb := 0, c := c' } :=
    fun c' L' e1 e2 e3 e4 e5 e6 e7 e8 ok wd w' a' => by
      refine ⟨⟨A, s, K, ⟨ok, wd, h.mv, h.pc, sb, fun _ => hat, fun e => by simp only at e; omega, fun e => by simp only at e; omega, fun e => by simp only at e; omega, fun e => by simp only at e; omega, fun _ => ⟨c1, c2, c3, e4, e5, e1.trans c7, e2.trans c8, e3, fun _ => e7, e8⟩, ?_, ?_, h.kn, ?_, ?_, ⟨0, ?_, ?_⟩, fun e => by simp only at e; omega, ?_⟩, .inr (.inr (.inr (.inl ⟨rfl, by simp only; omega, rfl, rfl⟩)))⟩, fun e => by simp at e, fun _ => rest_fv (.inl ⟨by omega, by omega⟩) (by simp only; omega)⟩
      · simp only [sdone, p, if_true]; exact dn
      · simp only [sdone, p, if_true]; exact kw
      · simp only [sdone, p, if_true]; exact kl
      · rw [w']; simp [wsum, p]
      · have : amOf { m with ek := 0, ea := 0, eb := 0, c := c' } = aIdle := by unfold amOf; rw [if_neg (by simp only; omega)]
        rw [this]; exact a'
      · simp [zd, p]; omega
      · simp [p]; omega
  -- it is lost
  have lost : ∀ (c' : Cm) (L' : List Int), k.Ok L'.length → Wds k L' K P → L'.getD k.z.wk.toNat 0 = (k.w0 + K.length + k.more) % 18446744073709551616 → A1 k.n k.r k.g k.e L' (i + 1) A aIdle 0 → (m.w ∈ K ∨ P m.w ∨ k.cy ≤ k.M0 m.w) →
      ((∀ u, ¬ P u) → m.w ∈ K ∨ k.cy ≤ k.M0 m.w) → ScStep k L i A m s K P rk L' (zrest { m with ek := 0, ea := 0, eb := 0, c := c' }) := fun c' L' ok wd w' a' hh hk => by
    have hB : SB k L' (i + 1) A 0 { m with ek := 0, ea := 0, eb := 0, c := c' } s K P := by
      refine ⟨ok, wd, h.mv, hat, sb, dn2 hh, fun hP => ?_, h.kn, by omega, w', ⟨aIdle, 0, rfl, a'⟩, by omega⟩
      rw [hx1, wlist_no ?_, kw hP]
      rw [hx3]
      rcases hk hP with x | x
      · exact .inr (by rw [← kw hP]; exact x)
      · exact .inl (fun y => by omega)
    refine ⟨⟨A, s, K, hB.rest (by omega), .inr (.inr (.inr (.inl ⟨rfl, (zr12 _).2.2, rfl, rfl⟩)))⟩, fun e => by simp [zrest] at e, fun _ => rest_fv (.inl ⟨by omega, by omega⟩) ⟨(zr12 _).1, (zr12 _).2.1⟩⟩
  have hA0 : A1 k.n k.r k.g k.e L (i + 1) A aIdle 0 := (ha.more (by omega) (Int.le_refl _)).idle rfl rfl
  have hpc : m.c.pc = 1 ∨ m.c.pc = 2 ∨ m.c.pc = 3 ∨ m.c.pc = 4 := by omega
  rcases hpc with q | q | q | q
  · have ec : cstp k.z.wk L m.c = (L, if m.c.cy ≤ ldc L m.c.p then { m.c with pc := 0, k := ldc L m.c.p } else { m.c with pc := 2, k := ldc L m.c.p }) := by simp [cstp, q]
    rw [ec]
    rw [if_neg (show ¬ 3 ≤ m.c.pc by omega), Int.add_zero] at wk
    by_cases hc : m.c.cy ≤ ldc L m.c.p
    · simp only [if_pos hc]
      rw [if_neg (by simp), if_neg (by rw [c9]; simp)]
      refine lost _ L h.ok h.wds wk hA0 ?_ ?_
      · by_cases hh : m.w ∈ K ∨ P m.w
        · rcases hh with x | x
          · exact .inl x
          · exact .inr (.inl x)
        · have := hma.2 hh
          rw [hld, c8] at hc; exact .inr (.inr (by omega))
      · intro hP
        by_cases hh : m.w ∈ K ∨ P m.w
        · exact .inl (hh.resolve_right (hP _))
        · have := hma.2 hh
          rw [hld, c8] at hc; exact .inr (by omega)
    · simp only [if_neg hc]
      rw [if_pos (by simp)]
      have hno : ¬ (m.w ∈ K ∨ P m.w) := fun hh => by
        have := hma.1 hh
        rw [hld, c8] at hc; omega
      have hM := hma.2 hno
      refine on ⟨2, m.c.p, m.c.cy, ldc L m.c.p, m.c.won⟩ L rfl rfl c9 (by simp) (by simp) (by simp only; omega) ⟨?_, ?_, fun x => hno (.inl x)⟩ (fun e => by simp at e) h.ok h.wds ?_ hA0
      · simp only; rw [hld, hM]
      · rw [hld, c8] at hc; omega
      · rw [wk]; simp
  · have ec : cstp k.z.wk L m.c = (adc L k.z.wk 1, { m.c with pc := 3 }) := by simp [cstp, q]
    rw [ec]
    simp only
    rw [if_pos (by simp)]
    rw [if_neg (show ¬ 3 ≤ m.c.pc by omega), Int.add_zero] at wk
    refine on ⟨3, m.c.p, m.c.cy, m.c.k, m.c.won⟩ _ rfl rfl c9 (by simp) (by simp) (by simp only; omega) (c10 (by omega)) (fun e => by simp at e) (by rw [adc_len]; exact h.ok) (h.wds.add h.ok 1) ?_ (hA0.add h.ok 1)
    rw [adc_wk h.ok rfl, wk]; simp
  · obtain ⟨k1, k2, k3⟩ := c10 (by omega)
    rw [if_pos (show 3 ≤ m.c.pc by omega)] at wk
    by_cases hc : (0 ≤ m.c.p ∧ m.c.p < L.length) ∧ L.getD m.c.p.toNat 0 = m.c.k
    · have ec : cstp k.z.wk L m.c = (ptc L m.c.p m.c.cy, { m.c with pc := 0, won := true }) := by
        unfold cstp; rw [if_neg (by omega), if_neg (by omega), if_pos q, if_pos hc]
      rw [ec]
      simp only
      rw [if_neg (by simp), if_pos trivial]
      have hl := pc_len L (k.z.ma m.w) k.cy
      have hnP : ¬ P m.w := fun x => by
        have := hma.1 (.inr x)
        rw [c7, this] at hc; omega
      rw [c7, c8]
      have hB : SB k (ptc L (k.z.ma m.w) k.cy) (i + 1) A 1 { zrest { m with ek := 0, ea := 0, eb := 0, c := ⟨0, k.z.ma m.w, k.cy, m.c.k, true⟩ } with ek := 1, ea := m.w } s (K ++ [m.w]) P := by
        refine ⟨by rw [hl]; exact h.ok, h.wds.mark h.ok c3 (fun x _ => ⟨fun e => ?_, fun e => ?_⟩), h.mv, hat, sb, fun j h0 h1 h2 => ?_, fun hP => ?_, ⟨?_, fun x hx => ?_⟩, by simp; omega, ?_, ⟨aIdle, 0, rfl, hA0.same hl fun q h0 hq => pc_other h0 fun e => ?_⟩, by simp; omega⟩
        · rcases e with e | e
          · rcases List.mem_append.1 e with e | e
            · exact .inr (.inl e)
            · exact .inl (by simpa using e)
          · exact .inr (.inr e)
        · rcases e with e | e | e
          · exact .inl (by simp [e])
          · exact .inl (by simp [e])
          · exact .inr e
        · by_cases hj : j = s - 1
          · left; rw [hj, ← c2]; simp
          · rcases dn j h0 (by omega) h2 with x | x
            · exact .inl (by simp [x])
            · exact .inr x
        · rw [hx1, wlist_yes ?_ ?_, hx3, ← kw hP]
          · rw [hx3]; exact ⟨c3.1, c3.2, k2⟩
          · rw [hx3, ← kw hP]; exact k3
        · rw [List.nodup_append]
          exact ⟨h.kn.1, by simp, fun a ha b hb => by rw [List.mem_singleton] at hb; subst hb; exact fun e => k3 (e ▸ ha)⟩
        · rcases List.mem_append.1 hx with x' | x'
          · exact h.kn.2 x x'
          · rw [List.mem_singleton] at x'; subst x'; exact ⟨c3.1, c3.2, k2⟩
        · rw [pc_other h.ok.wk.1 (Ne.symm pw), wk]; simp only [List.length_append, List.length_cons, List.length_nil]; congr 1; omega
        · subst e
          rcases hq with x | x
          · exact pE x
          · exact pP x
      refine ⟨⟨A + 1, s, K ++ [m.w], hB.give m.w 0 (by omega), .inl ⟨rfl, by simp [zgive], c3, rfl, rfl⟩⟩, fun e => by simp [zgive, zrest] at e, fun _ => rest_fv (.inl ⟨by omega, by omega⟩) (by simp [zgive])⟩
    · have ec : cstp k.z.wk L m.c = (L, { m.c with pc := 4 }) := by
        unfold cstp; rw [if_neg (by omega), if_neg (by omega), if_pos q, if_neg hc]
      rw [ec]
      simp only
      rw [if_pos (by simp)]
      have hPw : P m.w := by
        by_cases hh : m.w ∈ K ∨ P m.w
        · exact hh.resolve_left k3
        · have := hma.2 hh
          exact absurd ⟨⟨by rw [c7]; exact pa, by rw [c7]; exact pa1⟩, by rw [c7, this, k1]⟩ hc
      refine on ⟨4, m.c.p, m.c.cy, m.c.k, m.c.won⟩ L rfl rfl c9 (by simp) (by simp) (by simp only; omega) ⟨k1, k2, k3⟩ (fun _ => hPw) h.ok h.wds ?_ hA0
      rw [wk]; simp
  · have ec : cstp k.z.wk L m.c = (adc L k.z.wk 18446744073709551615, { m.c with pc := 0 }) := by simp [cstp, q]
    rw [ec]
    simp only
    rw [if_neg (by simp), if_neg (by rw [c9]; simp)]
    rw [if_pos (show 3 ≤ m.c.pc by omega)] at wk
    have hPw := c11 q
    refine lost _ _ (by rw [adc_len]; exact h.ok) (h.wds.add h.ok _) ?_ (hA0.add h.ok _) (.inr (.inl hPw)) (fun hP => absurd hPw (hP _))
    rw [adc_wk h.ok rfl, wk]; omega
/-- Each step. -/
theorem SC.step (h : SC k L i A m s K P rk) (hp : m.pc ≠ 0) (hi : i + 1 < 100000) : ScStep k L i A m s K P rk (zstp k.z k.g (aNew k.e) L m).1 (zstp k.z k.g (aNew k.e) L m).2 := by
  have pc := h.pc
  have : m.pc = 1 ∨ m.pc = 2 ∨ m.pc = 3 ∨ m.pc = 4 ∨ m.pc = 5 ∨ m.pc = 6 := by omega
  rcases this with p | p | p | p | p | p
  · exact step_head h p
  · exact step_count h p
  · exact step_add h p hi
  · exact step_slot h p
  · exact step_claim h p
  · exact step_last h p
end
end Go.Proofs.YtpocihddecemfaaGreat
