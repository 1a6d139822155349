/- Machines that try to mark: what a step is, and what holds however the steps of many come one behind the other. -/
import Derived.IntWalk
namespace Go.Proofs.Ytbjhciccpkbmoaa
set_option linter.unusedVariables false
set_option linter.unusedSimpArgs false

/-- A machine: its next step (0: finished), where the mark stands, the cycle, what it saw, and whether it won. -/
structure Cm where
  pc : Nat
  p : Int
  cy : Int
  k : Int
  won : Bool
def ldc (L : List Int) (at' : Int) : Int := if 0 ≤ at' ∧ at' < L.length then L.getD at'.toNat 0 else 0
def ptc (L : List Int) (at' v : Int) : List Int := if 0 ≤ at' ∧ at' < L.length then L.set at'.toNat v else L
/-- A sum, round the end of all numbers. -/
def adc (L : List Int) (at' d : Int) : List Int := ptc L at' ((ldc L at' + d) % 18446744073709551616)
def cstp (wk : Int) (L : List Int) (m : Cm) : List Int × Cm :=
  if m.pc = 1 then (L, if m.cy ≤ ldc L m.p then { m with pc := 0, k := ldc L m.p } else { m with pc := 2, k := ldc L m.p })
  else if m.pc = 2 then (adc L wk 1, { m with pc := 3 })
  else if m.pc = 3 then (if (0 ≤ m.p ∧ m.p < L.length) ∧ L.getD m.p.toNat 0 = m.k then (ptc L m.p m.cy, { m with pc := 0, won := true }) else (L, { m with pc := 4 }))
  else if m.pc = 4 then (adc L wk 18446744073709551615, { m with pc := 0 })
  else (L, m)
def cNew (p cy : Int) : Cm := ⟨1, p, cy, 0, false⟩
theorem pc_len (L : List Int) (p v : Int) : (ptc L p v).length = L.length := by unfold ptc; split <;> simp
theorem pc_same {L : List Int} {p v : Int} (h : 0 ≤ p ∧ p < L.length) : (ptc L p v).getD p.toNat 0 = v := by
  unfold ptc; rw [if_pos h]
  simp only [List.getD, List.getElem?_set, if_true]; rw [if_pos (by omega)]; rfl
theorem pc_other {L : List Int} {p v q : Int} (hq : 0 ≤ q) (h : q ≠ p) : (ptc L p v).getD q.toNat 0 = L.getD q.toNat 0 := by
  unfold ptc
  split
  · simp only [List.getD, List.getElem?_set]; rw [if_neg (by omega)]
  · rfl
theorem lc_in {L : List Int} {p : Int} (h : 0 ≤ p ∧ p < L.length) : ldc L p = L.getD p.toNat 0 := by unfold ldc; rw [if_pos h]
/-- How many own steps a machine has left. -/
def cdue (m : Cm) : Nat := if m.pc = 0 then 0 else 5 - m.pc
theorem cdue_step (wk : Int) (L : List Int) (m : Cm) (hp : m.pc ≤ 4) : cdue (cstp wk L m).2 ≤ cdue m - 1 ∧ (cstp wk L m).2.pc ≤ 4 ∧ (cstp wk L m).2.p = m.p ∧ (cstp wk L m).2.cy = m.cy := by
  unfold cstp
  repeat' split
  all_goals (simp [cdue, *])
  all_goals (try (have h0 : m.pc = 0 := by omega))
  all_goals (try simp [h0])

/-! Sums over machines. -/
def sumf (f : Cm → Int) : List Cm → Int
  | [] => 0
  | m :: l => f m + sumf f l
theorem sumf_set (f : Cm → Int) {m' m : Cm} : ∀ {l : List Cm} {j : Nat}, l[j]? = some m → sumf f (l.set j m') + f m = sumf f l + f m'
  | [], j, h => by simp at h
  | x :: l, 0, h => by
    simp only [List.getElem?_cons_zero, Option.some.injEq] at h
    subst h
    simp only [List.set_cons_zero, sumf]; omega
  | x :: l, j + 1, h => by
    simp only [List.getElem?_cons_succ] at h
    have := sumf_set f (m' := m') h
    simp only [List.set_cons_succ, sumf]; omega
theorem sumf_ge (f : Cm → Int) {m : Cm} (hf : ∀ m, 0 ≤ f m ∧ f m ≤ 1) : ∀ {l : List Cm} {j : Nat}, l[j]? = some m → f m ≤ sumf f l ∧ sumf f l ≤ l.length
  | [], j, h => by simp at h
  | [x], 0, h => by
    simp only [List.getElem?_cons_zero, Option.some.injEq] at h
    subst h
    have := hf x
    simp only [sumf, List.length_cons, List.length_nil]; omega
  | x :: y :: l, 0, h => by
    simp only [List.getElem?_cons_zero, Option.some.injEq] at h
    subst h
    have := hf x
    have := hf y
    have := (sumf_ge f hf (l := y :: l) (j := 0) rfl)
    simp only [sumf, List.length_cons] at *; omega
  | x :: l, j + 1, h => by
    simp only [List.getElem?_cons_succ] at h
    have := hf x
    have := hf m
    have := sumf_ge f hf h
    simp only [sumf, List.length_cons]; omega
theorem sumf_zero (f : Cm → Int) : ∀ {l : List Cm}, (∀ m ∈ l, f m = 0) → sumf f l = 0
  | [], _ => rfl
  | x :: l, h => by
    have := sumf_zero f (l := l) (fun m hm => h m (by simp [hm]))
    have := h x (by simp)
    simp only [sumf]; omega
theorem sumf_app (f : Cm → Int) : ∀ (l : List Cm) (m : Cm), sumf f (l ++ [m]) = sumf f l + f m
  | [], m => by simp [sumf]
  | x :: l, m => by
    have := sumf_app f l m
    simp only [List.cons_append, sumf]; omega
/-- One that has added to the work, and not taken it back. -/
def pend (m : Cm) : Int := if m.pc = 3 ∨ m.pc = 4 ∨ m.won = true then 1 else 0
def wonAt (p : Int) (m : Cm) : Int := if m.won = true ∧ m.p = p then 1 else 0
theorem pend_01 (m : Cm) : 0 ≤ pend m ∧ pend m ≤ 1 := by unfold pend; split <;> omega
/-- Many that try to mark in one cycle; fl: what was marked; P: where marks stand. -/
structure CI (P : List Int) (wk : Int) (cy : Int) (was : Int → Int) (N : Nat) (L : List Int) (l : List Cm) (fl : Int → Bool) : Prop where
  len : L.length = N
  wr : 0 ≤ wk ∧ wk < N
  pr : ∀ p ∈ P, 0 ≤ p ∧ p < N ∧ p ≠ wk
  few : l.length ≤ 1000
  mark : ∀ p ∈ P, L.getD p.toNat 0 = if fl p then cy else was p
  fle : ∀ p ∈ P, fl p = true → was p < cy
  work : L.getD wk.toNat 0 = sumf pend l
  won : ∀ p ∈ P, sumf (wonAt p) l = if fl p then 1 else 0
  each : ∀ m ∈ l, m.p ∈ P ∧ m.cy = cy ∧ m.pc ≤ 4 ∧ (m.pc ≠ 0 → m.won = false) ∧ (m.pc = 2 ∨ m.pc = 3 → m.k = was m.p ∧ was m.p < cy) ∧ (m.pc = 4 → fl m.p = true) ∧ (m.pc = 0 → m.won = true ∨ fl m.p = true ∨ cy ≤ was m.p)
  other : ∀ q : Int, 0 ≤ q → q ∉ P → q ≠ wk → L.getD q.toNat 0 = was q
theorem mem_set' {l : List Cm} {j : Nat} {m x : Cm} (h : x ∈ l.set j m) : x = m ∨ x ∈ l := by
  rcases List.mem_or_eq_of_mem_set h with h | h
  · exact .inr h
  · exact .inl h
theorem CI.step {P : List Int} {wk cy : Int} {was : Int → Int} {N : Nat} {L : List Int} {l : List Cm} {fl : Int → Bool} {m : Cm} {j : Nat} (H : CI P wk cy was N L l fl) (hj : l[j]? = some m) :
    ∃ fl', CI P wk cy was N (cstp wk L m).1 (l.set j (cstp wk L m).2) fl' := by
  have hm := H.each m (List.mem_of_getElem? hj)
  have hmp := H.pr m.p hm.1
  have hlen := H.len
  have hld : ldc L m.p = L.getD m.p.toNat 0 := lc_in ⟨hmp.1, by omega⟩
  have hwr := H.wr
  have hfew := H.few
  have hsum := sumf_ge pend pend_01 hj
  have hsp := fun m' => sumf_set pend (m' := m') hj
  have hsw := fun p m' => sumf_set (wonAt p) (m' := m') hj
  -- a step that leaves memory and flags
  have stay : ∀ m' : Cm, pend m' = pend m → (∀ p, wonAt p m' = wonAt p m) → (m'.p ∈ P ∧ m'.cy = cy ∧ m'.pc ≤ 4 ∧ (m'.pc ≠ 0 → m'.won = false) ∧ (m'.pc = 2 ∨ m'.pc = 3 → m'.k = was m'.p ∧ was m'.p < cy) ∧ (m'.pc = 4 → fl m'.p = true) ∧ (m'.pc = 0 → m'.won = true ∨ fl m'.p = true ∨ cy ≤ was m'.p)) → CI P wk cy was N L (l.set j m') fl := by
    intro m' h1 h2 h3
    refine ⟨hlen, hwr, H.pr, by simpa using hfew, H.mark, H.fle, ?_, fun p hp => ?_, fun x hx => ?_, H.other⟩
    · have := hsp m'; rw [H.work]; omega
    · have := hsw p m'; rw [← H.won p hp]; have := h2 p; omega
    · rcases mem_set' hx with rfl | hx
      · exact h3
      · exact H.each x hx
  -- a step that changes the work alone
  have works : ∀ (d : Int) (m' : Cm), (sumf pend l + d) % 18446744073709551616 = sumf pend l - pend m + pend m' → (∀ p, wonAt p m' = wonAt p m) → (m'.p ∈ P ∧ m'.cy = cy ∧ m'.pc ≤ 4 ∧ (m'.pc ≠ 0 → m'.won = false) ∧ (m'.pc = 2 ∨ m'.pc = 3 → m'.k = was m'.p ∧ was m'.p < cy) ∧ (m'.pc = 4 → fl m'.p = true) ∧ (m'.pc = 0 → m'.won = true ∨ fl m'.p = true ∨ cy ≤ was m'.p)) → CI P wk cy was N (adc L wk d) (l.set j m') fl := by
    intro d m' h1 h2 h3
    have ew : ldc L wk = sumf pend l := by rw [lc_in (by omega)]; exact H.work
    unfold adc
    rw [ew, h1]
    refine ⟨by rw [pc_len]; exact hlen, hwr, H.pr, by simpa using hfew, fun p hp => ?_, H.fle, ?_, fun p hp => ?_, fun x hx => ?_, fun q h0 h1 h2 => ?_⟩
    · rw [pc_other (H.pr p hp).1 (H.pr p hp).2.2]; exact H.mark p hp
    · rw [pc_same (by omega)]; have := hsp m'; omega
    · have := hsw p m'; rw [← H.won p hp]; have := h2 p; omega
    · rcases mem_set' hx with rfl | hx
      · exact h3
      · exact H.each x hx
    · rw [pc_other h0 h2]; exact H.other q h0 h1 h2
  obtain ⟨pc, p, c, k, won⟩ := m
  obtain ⟨hP, hcy, hpc, hw, h23, h4, h0⟩ := hm
  simp only at hP hcy hpc hw h23 h4 h0 hld hmp
  subst hcy
  have hmk := H.mark p hP
  match pc, hpc with
  | 0, _ =>
    have e : cstp wk L ⟨0, p, c, k, won⟩ = (L, ⟨0, p, c, k, won⟩) := by simp [cstp]
    rw [e]
    exact ⟨fl, stay _ rfl (fun _ => rfl) ⟨hP, rfl, by simp, fun h => absurd rfl h, by simp, by simp, fun _ => h0 rfl⟩⟩
  | 1, _ =>
    have hwf := hw (by simp)
    subst hwf
    have e : cstp wk L ⟨1, p, c, k, false⟩ = (L, if c ≤ ldc L p then ⟨0, p, c, ldc L p, false⟩ else ⟨2, p, c, ldc L p, false⟩) := by simp [cstp]
    rw [e]
    refine ⟨fl, ?_⟩
    by_cases hc : c ≤ ldc L p
    · rw [if_pos hc]
      refine stay _ rfl (fun _ => by simp [wonAt]) ⟨hP, rfl, by simp, by simp, by simp, by simp, fun _ => .inr ?_⟩
      rw [hld, hmk] at hc
      by_cases hf : fl p = true
      · exact .inl hf
      · rw [if_neg hf] at hc; exact .inr hc
    · rw [if_neg hc]
      rw [hld, hmk] at hc
      by_cases hf : fl p = true
      · rw [if_pos hf] at hc; omega
      · rw [if_neg hf] at hc hmk
        exact stay _ rfl (fun _ => by simp [wonAt]) ⟨hP, rfl, by simp, by simp, fun _ => ⟨hld.trans hmk, by simp only; omega⟩, by simp, by simp⟩
  | 2, _ =>
    have hwf := hw (by simp)
    subst hwf
    have e : cstp wk L ⟨2, p, c, k, false⟩ = (adc L wk 1, ⟨3, p, c, k, false⟩) := by simp [cstp]
    rw [e]
    refine ⟨fl, works 1 _ ?_ (fun _ => by simp [wonAt]) ⟨hP, rfl, by simp, by simp, fun _ => h23 (.inl rfl), by simp, by simp⟩⟩
    have a : pend ⟨2, p, c, k, false⟩ = 0 := by simp [pend]
    have b : pend ⟨3, p, c, k, false⟩ = 1 := by simp [pend]
    rw [a] at hsum ⊢; rw [b]; omega
  | 3, _ =>
    have hwf := hw (by simp)
    subst hwf
    have hk := h23 (.inr rfl)
    by_cases hc : L.getD p.toNat 0 = k
    · have e : cstp wk L ⟨3, p, c, k, false⟩ = (ptc L p c, ⟨0, p, c, k, true⟩) := by
        simp only [cstp]; rw [if_neg (by decide), if_neg (by decide), if_pos trivial, if_pos ⟨⟨hmp.1, by omega⟩, hc⟩]
      rw [e]
      have hf : fl p = false := by
        cases hb : fl p with
        | false => rfl
        | true => rw [hb, if_pos rfl] at hmk; omega
      refine ⟨fun q => if q = p then true else fl q, ⟨by rw [pc_len]; exact hlen, hwr, H.pr, by simpa using hfew, fun q hq => ?_, fun q hq hb => ?_, ?_, fun q hq => ?_, fun x hx => ?_, fun q q0 q1 q2 => ?_⟩⟩
      · by_cases hqp : q = p
        · subst hqp; simp only [if_true]; exact pc_same ⟨hmp.1, by omega⟩
        · simp only [if_neg hqp]; rw [pc_other (H.pr q hq).1 hqp]; exact H.mark q hq
      · by_cases hqp : q = p
        · subst hqp; exact hk.2
        · simp only [if_neg hqp] at hb; exact H.fle q hq hb
      · rw [pc_other hwr.1 (fun e => hmp.2.2 e.symm), H.work]
        have := hsp ⟨0, p, c, k, true⟩
        have a : pend ⟨3, p, c, k, false⟩ = 1 := by simp [pend]
        have b : pend ⟨0, p, c, k, true⟩ = 1 := by simp [pend]
        show sumf pend l = sumf pend (l.set j ⟨0, p, c, k, true⟩)
        omega
      · have := hsw q ⟨0, p, c, k, true⟩
        have hw := H.won q hq
        have a : wonAt q ⟨3, p, c, k, false⟩ = 0 := by simp [wonAt]
        by_cases hqp : q = p
        · subst hqp
          have b : wonAt q ⟨0, q, c, k, true⟩ = 1 := by simp [wonAt]
          rw [hf] at hw; simp only [if_true, Bool.false_eq_true, if_false] at hw ⊢; omega
        · have hpq : ¬p = q := fun e => hqp e.symm
          have b : wonAt q ⟨0, p, c, k, true⟩ = 0 := by simp [wonAt, hpq]
          simp only [if_neg hqp]; omega
      · rcases mem_set' hx with rfl | hx
        · exact ⟨hP, rfl, by simp, by simp, by simp, by simp, fun _ => .inl rfl⟩
        · obtain ⟨a1, a2, a3, a4, a5, a6, a7⟩ := H.each x hx
          refine ⟨a1, a2, a3, a4, a5, fun h => ?_, fun h => ?_⟩
          · by_cases hq : x.p = p
            · simp [hq]
            · simp only [if_neg hq]; exact a6 h
          · by_cases hq : x.p = p
            · exact .inr (.inl (by simp [hq]))
            · simp only [if_neg hq]; exact a7 h
      · rw [pc_other q0 (fun e => q1 (e ▸ hP))]; exact H.other q q0 q1 q2
    · have e : cstp wk L ⟨3, p, c, k, false⟩ = (L, ⟨4, p, c, k, false⟩) := by
        simp only [cstp]; rw [if_neg (by decide), if_neg (by decide), if_pos trivial, if_neg (fun h => hc h.2)]
      rw [e]
      refine ⟨fl, stay _ (by simp [pend]) (fun _ => by simp [wonAt]) ⟨hP, rfl, by simp, by simp, by simp, fun _ => ?_, by simp⟩⟩
      cases hb : fl p with
      | true => rfl
      | false => rw [hb] at hmk; simp only [Bool.false_eq_true, if_false] at hmk; exact absurd (hmk.trans hk.1.symm) hc
  | 4, _ =>
    have hwf := hw (by simp)
    subst hwf
    have e : cstp wk L ⟨4, p, c, k, false⟩ = (adc L wk 18446744073709551615, ⟨0, p, c, k, false⟩) := by simp [cstp]
    rw [e]
    refine ⟨fl, works _ _ ?_ (fun _ => by simp [wonAt]) ⟨hP, rfl, by simp, by simp, by simp, by simp, fun _ => .inr (.inl (h4 rfl))⟩⟩
    have a : pend ⟨4, p, c, k, false⟩ = 1 := by simp [pend]
    have b : pend ⟨0, p, c, k, false⟩ = 0 := by simp [pend]
    rw [a] at hsum ⊢; rw [b]; omega
/-- At first. -/
theorem CI.begin {P : List Int} {wk cy : Int} {was : Int → Int} {N : Nat} {L : List Int} (hl : L.length = N) (hw : 0 ≤ wk ∧ wk < N) (hp : ∀ p ∈ P, 0 ≤ p ∧ p < N ∧ p ≠ wk) (h0 : L.getD wk.toNat 0 = 0) (hwas : ∀ q : Int, 0 ≤ q → q ≠ wk → was q = L.getD q.toNat 0) (l : List Int) (hP : ∀ p ∈ l, p ∈ P) (hf : l.length ≤ 1000) :
    CI P wk cy was N L (l.map fun p => cNew p cy) fun _ => false := by
  have z : ∀ m ∈ l.map (fun p => cNew p cy), pend m = 0 ∧ ∀ q, wonAt q m = 0 := fun m hm => by
    obtain ⟨p, _, rfl⟩ := List.mem_map.1 hm
    exact ⟨by simp [pend, cNew], fun q => by simp [wonAt, cNew]⟩
  refine ⟨hl, hw, hp, by simpa using hf, fun p hpp => by simp [hwas p (hp p hpp).1 (hp p hpp).2.2], (fun _ _ h => by cases h), ?_, fun p _ => ?_, fun m hm => ?_, fun q q0 q1 q2 => (hwas q q0 q2).symm⟩
  · rw [h0, sumf_zero pend (fun m hm => (z m hm).1)]
  · rw [sumf_zero (wonAt p) (fun m hm => (z m hm).2 p)]; simp
  · obtain ⟨p, hpl, rfl⟩ := List.mem_map.1 hm
    exact ⟨hP p hpl, rfl, by simp [cNew], by simp [cNew], by simp [cNew], by simp [cNew], by simp [cNew]⟩
/-- At the end: a place of one of them was marked just if it wasn't before, and one won. -/
theorem CI.end {P : List Int} {wk cy : Int} {was : Int → Int} {N : Nat} {L : List Int} {l : List Cm} {fl : Int → Bool} (H : CI P wk cy was N L l fl) (hd : ∀ m ∈ l, m.pc = 0) :
    (∀ m ∈ l, sumf (wonAt m.p) l = (if was m.p < cy then 1 else 0) ∧ L.getD m.p.toNat 0 = if was m.p < cy then cy else was m.p) ∧
    (∀ p ∈ P, (∀ m ∈ l, m.p ≠ p) → sumf (wonAt p) l = 0 ∧ L.getD p.toNat 0 = was p) := by
  refine ⟨fun m hm => ?_, fun p hp hn => ?_⟩
  · obtain ⟨a1, a2, a3, a4, a5, a6, a7⟩ := H.each m hm
    have hw := H.won m.p a1
    have hk := H.mark m.p a1
    have hf := H.fle m.p a1
    have hfl : fl m.p = true ↔ was m.p < cy := by
      refine ⟨hf, fun hlt => ?_⟩
      rcases a7 (hd m hm) with h | h | h
      · cases hb : fl m.p with
        | true => rfl
        | false =>
          rw [hb] at hw
          obtain ⟨j, hj⟩ := List.getElem?_of_mem hm
          have := (sumf_ge (wonAt m.p) (m := m) (fun m => by unfold wonAt; split <;> omega) hj).1
          have e : wonAt m.p m = 1 := by simp [wonAt, h]
          simp at hw; omega
      · exact h
      · omega
    by_cases hlt : was m.p < cy
    · rw [if_pos hlt, if_pos hlt]; rw [if_pos (hfl.2 hlt)] at hw hk; exact ⟨hw, hk⟩
    · rw [if_neg hlt, if_neg hlt]; rw [if_neg (fun h => hlt (hfl.1 h))] at hw hk; exact ⟨hw, hk⟩
  · have z : sumf (wonAt p) l = 0 := sumf_zero _ fun m hm => by simp [wonAt, hn m hm]
    have hw := H.won p hp
    have hk := H.mark p hp
    rw [z] at hw
    cases hb : fl p with
    | true => rw [hb] at hw; simp at hw
    | false => rw [hb] at hk; exact ⟨z, by simpa using hk⟩
/-- The work is as many as won. -/
theorem CI.work_end {P : List Int} {wk cy : Int} {was : Int → Int} {N : Nat} {L : List Int} {l : List Cm} {fl : Int → Bool} (H : CI P wk cy was N L l fl) (hd : ∀ m ∈ l, m.pc = 0) :
    L.getD wk.toNat 0 = sumf (fun m => if m.won = true then 1 else 0) l := by
  rw [H.work]
  clear H
  induction l with
  | nil => rfl
  | cons m l ih =>
    have := hd m (by simp)
    simp only [sumf]
    rw [ih (fun x hx => hd x (by simp [hx]))]
    simp [pend, this]

/-! Alone, and with others that change the mark. -/
def cruns (wk : Int) : Nat → List Int → Cm → List Int × Cm
  | 0, L, m => (L, m)
  | k + 1, L, m => cruns wk k (cstp wk L m).1 (cstp wk L m).2
theorem alone_marks {wk p cy : Int} {L : List Int} (hw : 0 ≤ wk ∧ wk < L.length) (hp : 0 ≤ p ∧ p < L.length) (hne : p ≠ wk) :
    cruns wk 4 L (cNew p cy) = if cy ≤ L.getD p.toNat 0 then (L, ⟨0, p, cy, L.getD p.toNat 0, false⟩) else (ptc (adc L wk 1) p cy, ⟨0, p, cy, L.getD p.toNat 0, true⟩) := by
  have hl := lc_in hp
  by_cases h : cy ≤ L.getD p.toNat 0
  · rw [if_pos h]
    have e1 : cstp wk L (cNew p cy) = (L, ⟨0, p, cy, L.getD p.toNat 0, false⟩) := by simp only [cstp, cNew, hl]; rw [if_pos trivial, if_pos h]
    have e4 : ∀ M, cstp wk M ⟨0, p, cy, L.getD p.toNat 0, false⟩ = (M, ⟨0, p, cy, L.getD p.toNat 0, false⟩) := fun M => by simp [cstp]
    simp only [cruns, e1, e4]
  · rw [if_neg h]
    have e : (adc L wk 1).getD p.toNat 0 = L.getD p.toNat 0 := pc_other hp.1 hne
    have el : (adc L wk 1).length = L.length := pc_len ..
    have e1 : cstp wk L (cNew p cy) = (L, ⟨2, p, cy, L.getD p.toNat 0, false⟩) := by simp only [cstp, cNew, hl]; rw [if_pos trivial, if_neg h]
    have e2 : cstp wk L ⟨2, p, cy, L.getD p.toNat 0, false⟩ = (adc L wk 1, ⟨3, p, cy, L.getD p.toNat 0, false⟩) := by simp [cstp]
    have e3 : cstp wk (adc L wk 1) ⟨3, p, cy, L.getD p.toNat 0, false⟩ = (ptc (adc L wk 1) p cy, ⟨0, p, cy, L.getD p.toNat 0, true⟩) := by
      simp only [cstp]; rw [if_neg (by decide), if_neg (by decide), if_pos trivial, if_pos ⟨⟨hp.1, by omega⟩, e⟩]
    have e4 : ∀ M, cstp wk M ⟨0, p, cy, L.getD p.toNat 0, true⟩ = (M, ⟨0, p, cy, L.getD p.toNat 0, true⟩) := fun M => by simp [cstp]
    simp only [cruns, e1, e2, e3, e4]
/-- The work is what the one machine has added, whatever others do to its mark. -/
def C1 (wk : Int) (L : List Int) (m : Cm) : Prop := (0 ≤ wk ∧ wk < L.length) ∧ (0 ≤ m.p ∧ m.p < L.length ∧ m.p ≠ wk) ∧ m.pc ≤ 4 ∧ (m.pc ≠ 0 → m.won = false) ∧ L.getD wk.toNat 0 = pend m
theorem C1.poke {wk v : Int} {L : List Int} {m : Cm} (H : C1 wk L m) : C1 wk (ptc L m.p v) m := by
  obtain ⟨a, b, c, d, e⟩ := H
  exact ⟨by rw [pc_len]; exact a, by rw [pc_len]; exact b, c, d, by rw [pc_other a.1 (fun h => b.2.2 h.symm)]; exact e⟩
theorem C1.step {wk : Int} {L : List Int} {m : Cm} (H : C1 wk L m) : C1 wk (cstp wk L m).1 (cstp wk L m).2 := by
  obtain ⟨a, b, c, d, e⟩ := H
  obtain ⟨pc, p, cy, k, won⟩ := m
  simp only at b c d e
  have hl := lc_in a
  have ad : ∀ x : Int, (adc L wk x).getD wk.toNat 0 = (L.getD wk.toNat 0 + x) % 18446744073709551616 := fun x => by unfold adc; rw [hl]; exact pc_same a
  have al : ∀ x : Int, (adc L wk x).length = L.length := fun x => pc_len ..
  match pc, c with
  | 0, _ => have h : cstp wk L ⟨0, p, cy, k, won⟩ = (L, ⟨0, p, cy, k, won⟩) := by simp [cstp]
            rw [h]; exact ⟨a, b, by simp, d, e⟩
  | 1, _ =>
    have hwf := d (by simp)
    subst hwf
    have h : cstp wk L ⟨1, p, cy, k, false⟩ = (L, if cy ≤ ldc L p then ⟨0, p, cy, ldc L p, false⟩ else ⟨2, p, cy, ldc L p, false⟩) := by simp [cstp]
    rw [h]
    have e0 : pend ⟨1, p, cy, k, false⟩ = 0 := by simp [pend]
    by_cases hc : cy ≤ ldc L p
    · rw [if_pos hc]; exact ⟨a, b, by simp, by simp, by rw [e, e0]; simp [pend]⟩
    · rw [if_neg hc]; exact ⟨a, b, by simp, by simp, by rw [e, e0]; simp [pend]⟩
  | 2, _ =>
    have hwf := d (by simp)
    subst hwf
    have h : cstp wk L ⟨2, p, cy, k, false⟩ = (adc L wk 1, ⟨3, p, cy, k, false⟩) := by simp [cstp]
    rw [h]
    exact ⟨by rw [al]; exact a, by rw [al]; exact b, by simp, by simp, by rw [ad, e]; simp [pend]⟩
  | 3, _ =>
    have hwf := d (by simp)
    subst hwf
    have h : cstp wk L ⟨3, p, cy, k, false⟩ = if (0 ≤ p ∧ p < L.length) ∧ L.getD p.toNat 0 = k then (ptc L p cy, ⟨0, p, cy, k, true⟩) else (L, ⟨4, p, cy, k, false⟩) := by simp only [cstp]; rw [if_neg (by decide), if_neg (by decide), if_pos trivial]
    rw [h]
    split
    · exact ⟨by rw [pc_len]; exact a, by rw [pc_len]; exact b, by simp, by simp, by rw [pc_other a.1 (fun h => b.2.2 h.symm), e]; simp [pend]⟩
    · exact ⟨a, b, by simp, by simp, by rw [e]; simp [pend]⟩
  | 4, _ =>
    have hwf := d (by simp)
    subst hwf
    have h : cstp wk L ⟨4, p, cy, k, false⟩ = (adc L wk 18446744073709551615, ⟨0, p, cy, k, false⟩) := by simp [cstp]
    rw [h]
    exact ⟨by rw [al]; exact a, by rw [al]; exact b, by simp, by simp, by rw [ad, e]; simp [pend]⟩
end Go.Proofs.Ytbjhciccpkbmoaa
