/- Machines that try to mark: what a step is, and what holds however the steps of many come one behind the other. A store that is made, and all its words in new memory, walked. The document's example, a choice of two words, and an access by its kind, walked. Two stores of the call's own, apart from each other; the words of a slice that came in, read later on. Which blocks may have changed. Words that are added to, by the program and by the document; how many accesses there were; walked. A machine that tries to mark: its block, and each of its steps; walked. -/
import Derived.IntWalk
import Derived.Test.YtpocihddecemfaaGreatJ3
import Derived.Test.YtpocihddecemfaaGreatJ4
import Derived.BigQuiet
import Derived.Laws.EntriesVeiled
import Derived.Handy
import Derived.Lib.SliceRun
namespace Go.Proofs.YtpocihddecemfaaGreat
set_option linter.unusedVariables false
set_option linter.unusedSimpArgs false

/-- A machine: its next step (0: finished), where the mark stands, the cycle, what it saw, and whether it won. -/
structure Cm where
  pc : Nat
  p : Int
  cy : Int
  k : Int
  won : Bool
def ldc (L : List Int) (at' : Int) : Int := if 0 ≤ at' ∧ at' < L.length then L.getD at'.toNat 0 else 0
def ptc (L : List Int) (at' v : Int) : List Int := if 0 ≤ at' ∧ at' < L.length then L.set at'.toNat v else L
/-- A sum, round the end of all numbers. -/
def adc (L : List Int) (at' d : Int) : List Int := ptc L at' ((ldc L at' + d) % 18446744073709551616)
def cstp (wk : Int) (L : List Int) (m : Cm) : List Int × Cm :=
  if m.pc = 1 then (L, if m.cy ≤ ldc L m.p then { m with pc := 0, k := ldc L m.p } else { m with pc := 2, k := ldc L m.p })
  else if m.pc = 2 then (adc L wk 1, { m with pc := 3 })
  else if m.pc = 3 then (if (0 ≤ m.p ∧ m.p < L.length) ∧ L.getD m.p.toNat 0 = m.k then (ptc L m.p m.cy, { m with pc := 0, won := true }) else (L, { m with pc := 4 }))
  else if m.pc = 4 then (adc L wk 18446744073709551615, { m with pc := 0 })
  else (L, m)
def cNew (p cy : Int) : Cm := ⟨1, p, cy, 0, false⟩
theorem pc_len (L : List Int) (p v : Int) : (ptc L p v).length = L.length := by unfold ptc; split <;> simp
theorem pc_same {L : List Int} {p v : Int} (h : 0 ≤ p ∧ p < L.length) : (ptc L p v).getD p.toNat 0 = v := by
  unfold ptc; rw [if_pos h]
  simp only [List.getD, List.getElem?_set, if_true]; rw [if_pos (by omega)]; rfl
theorem pc_other {L : List Int} {p v q : Int} (hq : 0 ≤ q) (h : q ≠ p) : (ptc L p v).getD q.toNat 0 = L.getD q.toNat 0 := by
  unfold ptc
  split
  · simp only [List.getD, List.getElem?_set]; rw [if_neg (by omega)]
  · rfl
theorem lc_in {L : List Int} {p : Int} (h : 0 ≤ p ∧ p < L.length) : ldc L p = L.getD p.toNat 0 := by unfold ldc; rw [if_pos h]
/-- How many own steps a machine has left. -/
def cdue (m : Cm) : Nat := if m.pc = 0 then 0 else 5 - m.pc
theorem cdue_step (wk : Int) (L : List Int) (m : Cm) (hp : m.pc ≤ 4) : cdue (cstp wk L m).2 ≤ cdue m - 1 ∧ (cstp wk L m).2.pc ≤ 4 ∧ (cstp wk L m).2.p = m.p ∧ (cstp wk L m).2.cy = m.cy := by
  unfold cstp
  repeat' split
  all_goals (simp [cdue, *])
  all_goals (try (have h0 : m.pc = 0 := by omega))
  all_goals (try simp [h0])

/-! Sums over machines. -/
def sumf (f : Cm → Int) : List Cm → Int
  | [] => 0
  | m :: l => f m + sumf f l
theorem sumf_set (f : Cm → Int) {m' m : Cm} : ∀ {l : List Cm} {j : Nat}, l[j]? = some m → sumf f (l.set j m') + f m = sumf f l + f m'
  | [], j, h => by simp at h
  | x :: l, 0, h => by
    simp only [List.getElem?_cons_zero, Option.some.injEq] at h
    subst h
    simp only [List.set_cons_zero, sumf]; omega
  | x :: l, j + 1, h => by
    simp only [List.getElem?_cons_succ] at h
    have := sumf_set f (m' := m') h
    simp only [List.set_cons_succ, sumf]; omega
theorem sumf_ge (f : Cm → Int) {m : Cm} (hf : ∀ m, 0 ≤ f m ∧ f m ≤ 1) : ∀ {l : List Cm} {j : Nat}, l[j]? = some m → f m ≤ sumf f l ∧ sumf f l ≤ l.length
  | [], j, h => by simp at h
  | [x], 0, h => by
    simp only [List.getElem?_cons_zero, Option.some.injEq] at h
    subst h
    have := hf x
    simp only [sumf, List.length_cons, List.length_nil]; omega
  | x :: y :: l, 0, h => by
    simp only [List.getElem?_cons_zero, Option.some.injEq] at h
    subst h
    have := hf x
    have := hf y
    have := (sumf_ge f hf (l := y :: l) (j := 0) rfl)
    simp only [sumf, List.length_cons] at *; omega
  | x :: l, j + 1, h => by
    simp only [List.getElem?_cons_succ] at h
    have := hf x
    have := hf m
    have := sumf_ge f hf h
    simp only [sumf, List.length_cons]; omega
theorem sumf_zero (f : Cm → Int) : ∀ {l : List Cm}, (∀ m ∈ l, f m = 0) → sumf f l = 0
  | [], _ => rfl
  | x :: l, h => by
    have := sumf_zero f (l := l) (fun m hm => h m (by simp [hm]))
    have := h x (by simp)
    simp only [sumf]; omega
theorem sumf_app (f : Cm → Int) : ∀ (l : List Cm) (m : Cm), sumf f (l ++ [m]) = sumf f l + f m
  | [], m => by simp [sumf]
  | x :: l, m => by
    have := sumf_app f l m
    simp only [List.cons_append, sumf]; omega
/-- One that has added to the work, and not taken it back. -/
def pend (m : Cm) : Int := if m.pc = 3 ∨ m.pc = 4 ∨ m.won = true then 1 else 0
def wonAt (p : Int) (m : Cm) : Int := if m.won = true ∧ m.p = p then 1 else 0
theorem pend_01 (m : Cm) : 0 ≤ pend m ∧ pend m ≤ 1 := by unfold pend; split <;> omega
/-- Many that try to mark in one cycle; fl: what was marked; P: where marks stand. -/
structure CI (P : List Int) (wk : Int) (cy : Int) (was : Int → Int) (N : Nat) (L : List Int) (l : List Cm) (fl : Int → Bool) : Prop where
  len : L.length = N
  wr : 0 ≤ wk ∧ wk < N
  pr : ∀ p ∈ P, 0 ≤ p ∧ p < N ∧ p ≠ wk
  few : l.length ≤ 1000
  mark : ∀ p ∈ P, L.getD p.toNat 0 = if fl p then cy else was p
  fle : ∀ p ∈ P, fl p = true → was p < cy
  work : L.getD wk.toNat 0 = sumf pend l
  won : ∀ p ∈ P, sumf (wonAt p) l = if fl p then 1 else 0
  each : ∀ m ∈ l, m.p ∈ P ∧ m.cy = cy ∧ m.pc ≤ 4 ∧ (m.pc ≠ 0 → m.won = false) ∧ (m.pc = 2 ∨ m.pc = 3 → m.k = was m.p ∧ was m.p < cy) ∧ (m.pc = 4 → fl m.p = true) ∧ (m.pc = 0 → m.won = true ∨ fl m.p = true ∨ cy ≤ was m.p)
  other : ∀ q : Int, 0 ≤ q → q ∉ P → q ≠ wk → L.getD q.toNat 0 = was q
theorem mem_set' {l : List Cm} {j : Nat} {m x : Cm} (h : x ∈ l.set j m) : x = m ∨ x ∈ l := by
  rcases List.mem_or_eq_of_mem_set h with h | h
  · exact .inr h
  · exact .inl h
theorem CI.step {P : List Int} {wk cy : Int} {was : Int → Int} {N : Nat} {L : List Int} {l : List Cm} {fl : Int → Bool} {m : Cm} {j : Nat} (H : CI P wk cy was N L l fl) (hj : l[j]? = some m) :
    ∃ fl', CI P wk cy was N (cstp wk L m).1 (l.set j (cstp wk L m).2) fl' := by
  have hm := H.each m (List.mem_of_getElem? hj)
  have hmp := H.pr m.p hm.1
  have hlen := H.len
  have hld : ldc L m.p = L.getD m.p.toNat 0 := lc_in ⟨hmp.1, by omega⟩
  have hwr := H.wr
  have hfew := H.few
  have hsum := sumf_ge pend pend_01 hj
  have hsp := fun m' => sumf_set pend (m' := m') hj
  have hsw := fun p m' => sumf_set (wonAt p) (m' := m') hj
  -- a step that leaves memory and flags
  have stay : ∀ m' : Cm, pend m' = pend m → (∀ p, wonAt p m' = wonAt p m) → (m'.p ∈ P ∧ m'.cy = cy ∧ m'.pc ≤ 4 ∧ (m'.pc ≠ 0 → m'.won = false) ∧ (m'.pc = 2 ∨ m'.pc = 3 → m'.k = was m'.p ∧ was m'.p < cy) ∧ (m'.pc = 4 → fl m'.p = true) ∧ (m'.pc = 0 → m'.won = true ∨ fl m'.p = true ∨ cy ≤ was m'.p)) → CI P wk cy was N L (l.set j m') fl := by
    intro m' h1 h2 h3
    refine ⟨hlen, hwr, H.pr, by simpa using hfew, H.mark, H.fle, ?_, fun p hp => ?_, fun x hx => ?_, H.other⟩
    · have := hsp m'; rw [H.work]; omega
    · have := hsw p m'; rw [← H.won p hp]; have := h2 p; omega
    · rcases mem_set' hx with rfl | hx
      · exact h3
      · exact H.each x hx
  -- a step that changes the work alone
  have works : ∀ (d : Int) (m' : Cm), (sumf pend l + d) % 18446744073709551616 = sumf pend l - pend m + pend m' → (∀ p, wonAt p m' = wonAt p m) → (m'.p ∈ P ∧ m'.cy = cy ∧ m'.pc ≤ 4 ∧ (m'.pc ≠ 0 → m'.won = false) ∧ (m'.pc = 2 ∨ m'.pc = 3 → m'.k = was m'.p ∧ was m'.p < cy) ∧ (m'.pc = 4 → fl m'.p = true) ∧ (m'.pc = 0 → m'.won = true ∨ fl m'.p = true ∨ cy ≤ was m'.p)) → CI P wk cy was N (adc L wk d) (l.set j m') fl := by
    intro d m' h1 h2 h3
    have ew : ldc L wk = sumf pend l := by rw [lc_in (by omega)]; exact H.work
    unfold adc
    rw [ew, h1]
    refine ⟨by rw [pc_len]; exact hlen, hwr, H.pr, by simpa using hfew, fun p hp => ?_, H.fle, ?_, fun p hp => ?_, fun x hx => ?_, fun q h0 h1 h2 => ?_⟩
    · rw [pc_other (H.pr p hp).1 (H.pr p hp).2.2]; exact H.mark p hp
    · rw [pc_same (by omega)]; have := hsp m'; omega
    · have := hsw p m'; rw [← H.won p hp]; have := h2 p; omega
    · rcases mem_set' hx with rfl | hx
      · exact h3
      · exact H.each x hx
    · rw [pc_other h0 h2]; exact H.other q h0 h1 h2
  obtain ⟨pc, p, c, k, won⟩ := m
  obtain ⟨hP, hcy, hpc, hw, h23, h4, h0⟩ := hm
  simp only at hP hcy hpc hw h23 h4 h0 hld hmp
  subst hcy
  have hmk := H.mark p hP
  match pc, hpc with
  | 0, _ =>
    have e : cstp wk L ⟨0, p, c, k, won⟩ = (L, ⟨0, p, c, k, won⟩) := by simp [cstp]
    rw [e]
    exact ⟨fl, stay _ rfl (fun _ => rfl) ⟨hP, rfl, by simp, fun h => absurd rfl h, by simp, by simp, fun _ => h0 rfl⟩⟩
  | 1, _ =>
    have hwf := hw (by simp)
    subst hwf
    have e : cstp wk L ⟨1, p, c, k, false⟩ = (L, if c ≤ ldc L p then ⟨0, p, c, ldc L p, false⟩ else ⟨2, p, c, ldc L p, false⟩) := by simp [cstp]
    rw [e]
    refine ⟨fl, ?_⟩
    by_cases hc : c ≤ ldc L p
    · rw [if_pos hc]
      refine stay _ rfl (fun _ => by simp [wonAt]) ⟨hP, rfl, by simp, by simp, by simp, by simp, fun _ => .inr ?_⟩
      rw [hld, hmk] at hc
      by_cases hf : fl p = true
      · exact .inl hf
      · rw [if_neg hf] at hc; exact .inr hc
    · rw [if_neg hc]
      rw [hld, hmk] at hc
      by_cases hf : fl p = true
      · rw [if_pos hf] at hc; omega
      · rw [if_neg hf] at hc hmk
        exact stay _ rfl (fun _ => by simp [wonAt]) ⟨hP, rfl, by simp, by simp, fun _ => ⟨hld.trans hmk, by simp only; omega⟩, by simp, by simp⟩
  | 2, _ =>
    have hwf := hw (by simp)
    subst hwf
    have e : cstp wk L ⟨2, p, c, k, false⟩ = (adc L wk 1, ⟨3, p, c, k, false⟩) := by simp [cstp]
    rw [e]
    refine ⟨fl, works 1 _ ?_ (fun _ => by simp [wonAt]) ⟨hP, rfl, by simp, by simp, fun _ => h23 (.inl rfl), by simp, by simp⟩⟩
    have a : pend ⟨2, p, c, k, false⟩ = 0 := by simp [pend]
    have b : pend ⟨3, p, c, k, false⟩ = 1 := by simp [pend]
    rw [a] at hsum ⊢; rw [b]; omega
  | 3, _ =>
    have hwf := hw (by simp)
    subst hwf
    have hk := h23 (.inr rfl)
    by_cases hc : L.getD p.toNat 0 = k
    · have e : cstp wk L ⟨3, p, c, k, false⟩ = (ptc L p c, ⟨0, p, c, k, true⟩) := by
        simp only [cstp]; rw [if_neg (by decide), if_neg (by decide), if_pos trivial, if_pos ⟨⟨hmp.1, by omega⟩, hc⟩]
      rw [e]
      have hf : fl p = false := by
        cases hb : fl p with
        | false => rfl
        | true => rw [hb, if_pos rfl] at hmk; omega
      refine ⟨fun q => if q = p then true else fl q, ⟨by rw [pc_len]; exact hlen, hwr, H.pr, by simpa using hfew, fun q hq => ?_, fun q hq hb => ?_, ?_, fun q hq => ?_, fun x hx => ?_, fun q q0 q1 q2 => ?_⟩⟩
      · by_cases hqp : q = p
        · subst hqp; simp only [if_true]; exact pc_same ⟨hmp.1, by omega⟩
        · simp only [if_neg hqp]; rw [pc_other (H.pr q hq).1 hqp]; exact H.mark q hq
      · by_cases hqp : q = p
        · subst hqp; exact hk.2
        · simp only [if_neg hqp] at hb; exact H.fle q hq hb
      · rw [pc_other hwr.1 (fun e => hmp.2.2 e.symm), H.work]
        have := hsp ⟨0, p, c, k, true⟩
        have a : pend ⟨3, p, c, k, false⟩ = 1 := by simp [pend]
        have b : pend ⟨0, p, c, k, true⟩ = 1 := by simp [pend]
        show sumf pend l = sumf pend (l.set j ⟨0, p, c, k, true⟩)
        omega
      · have := hsw q ⟨0, p, c, k, true⟩
        have hw := H.won q hq
        have a : wonAt q ⟨3, p, c, k, false⟩ = 0 := by simp [wonAt]
        by_cases hqp : q = p
        · subst hqp
          have b : wonAt q ⟨0, q, c, k, true⟩ = 1 := by simp [wonAt]
          rw [hf] at hw; simp only [if_true, Bool.false_eq_true, if_false] at hw ⊢; omega
        · have hpq : ¬p = q := fun e => hqp e.symm
          have b : wonAt q ⟨0, p, c, k, true⟩ = 0 := by simp [wonAt, hpq]
          simp only [if_neg hqp]; omega
      · rcases mem_set' hx with rfl | hx
        · exact ⟨hP, rfl, by simp, by simp, by simp, by simp, fun _ => .inl rfl⟩
        · obtain ⟨a1, a2, a3, a4, a5, a6, a7⟩ := H.each x hx
          refine ⟨a1, a2, a3, a4, a5, fun h => ?_, fun h => ?_⟩
          · by_cases hq : x.p = p
            · simp [hq]
            · simp only [if_neg hq]; exact a6 h
          · by_cases hq : x.p = p
            · exact .inr (.inl (by simp [hq]))
            · simp only [if_neg hq]; exact a7 h
      · rw [pc_other q0 (fun e => q1 (e ▸ hP))]; exact H.other q q0 q1 q2
    · have e : cstp wk L ⟨3, p, c, k, false⟩ = (L, ⟨4, p, c, k, false⟩) := by
        simp only [cstp]; rw [if_neg (by decide), if_neg (by decide), if_pos trivial, if_neg (fun h => hc h.2)]
      rw [e]
      refine ⟨fl, stay _ (by simp [pend]) (fun _ => by simp [wonAt]) ⟨hP, rfl, by simp, by simp, by simp, fun _ => ?_, by simp⟩⟩
      cases hb : fl p with
      | true => rfl
      | false => rw [hb] at hmk; simp only [Bool.false_eq_true, if_false] at hmk; exact absurd (hmk.trans hk.1.symm) hc
  | 4, _ =>
    have hwf := hw (by simp)
    subst hwf
    have e : cstp wk L ⟨4, p, c, k, false⟩ = (adc L wk 18446744073709551615, ⟨0, p, c, k, false⟩) := by simp [cstp]
    rw [e]
    refine ⟨fl, works _ _ ?_ (fun _ => by simp [wonAt]) ⟨hP, rfl, by simp, by simp, by simp, by simp, fun _ => .inr (.inl (h4 rfl))⟩⟩
    have a : pend ⟨4, p, c, k, false⟩ = 1 := by simp [pend]
    have b : pend ⟨0, p, c, k, false⟩ = 0 := by simp [pend]
    rw [a] at hsum ⊢; rw [b]; omega
/-- At first. -/
theorem CI.begin {P : List Int} {wk cy : Int} {was : Int → Int} {N : Nat} {L : List Int} (hl : L.length = N) (hw : 0 ≤ wk ∧ wk < N) (hp : ∀ p ∈ P, 0 ≤ p ∧ p < N ∧ p ≠ wk) (h0 : L.getD wk.toNat 0 = 0) (hwas : ∀ q : Int, 0 ≤ q → q ≠ wk → was q = L.getD q.toNat 0) (l : List Int) (hP : ∀ p ∈ l, p ∈ P) (hf : l.length ≤ 1000) :
    CI P wk cy was N L (l.map fun p => cNew p cy) fun _ => false := by
  have z : ∀ m ∈ l.map (fun p => cNew p cy), pend m = 0 ∧ ∀ q, wonAt q m = 0 := fun m hm => by
    obtain ⟨p, _, rfl⟩ := List.mem_map.1 hm
    exact ⟨by simp [pend, cNew], fun q => by simp [wonAt, cNew]⟩
  refine ⟨hl, hw, hp, by simpa using hf, fun p hpp => by simp [hwas p (hp p hpp).1 (hp p hpp).2.2], (fun _ _ h => by cases h), ?_, fun p _ => ?_, fun m hm => ?_, fun q q0 q1 q2 => (hwas q q0 q2).symm⟩
  · rw [h0, sumf_zero pend (fun m hm => (z m hm).1)]
  · rw [sumf_zero (wonAt p) (fun m hm => (z m hm).2 p)]; simp
  · obtain ⟨p, hpl, rfl⟩ := List.mem_map.1 hm
    exact ⟨hP p hpl, rfl, by simp [cNew], by simp [cNew], by simp [cNew], by simp [cNew], by simp [cNew]⟩
/-- At the end: a place of one of them was marked just if it wasn't before, and one won. -/
theorem CI.end {P : List Int} {wk cy : Int} {was : Int → Int} {N : Nat} {L : List Int} {l : List Cm} {fl : Int → Bool} (H : CI P wk cy was N L l fl) (hd : ∀ m ∈ l, m.pc = 0) :
    (∀ m ∈ l, sumf (wonAt m.p) l = (if was m.p < cy then 1 else 0) ∧ L.getD m.p.toNat 0 = if was m.p < cy then cy else was m.p) ∧
    (∀ p ∈ P, (∀ m ∈ l, m.p ≠ p) → sumf (wonAt p) l = 0 ∧ L.getD p.toNat 0 = was p) := by
  refine ⟨fun m hm => ?_, fun p hp hn => ?_⟩
  · obtain ⟨a1, a2, a3, a4, a5, a6, a7⟩ := H.each m hm
    have hw := H.won m.p a1
    have hk := H.mark m.p a1
    have hf := H.fle m.p a1
    have hfl : fl m.p = true ↔ was m.p < cy := by
      refine ⟨hf, fun hlt => ?_⟩
      rcases a7 (hd m hm) with h | h | h
      · cases hb : fl m.p with
        | true => rfl
        | false =>
          rw [hb] at hw
          obtain ⟨j, hj⟩ := List.getElem?_of_mem hm
          have := (sumf_ge (wonAt m.p) (m := m) (fun m => by unfold wonAt; split <;> omega) hj).1
          have e : wonAt m.p m = 1 := by simp [wonAt, h]
          simp at hw; omega
      · exact h
      · omega
    by_cases hlt : was m.p < cy
    · rw [if_pos hlt, if_pos hlt]; rw [if_pos (hfl.2 hlt)] at hw hk; exact ⟨hw, hk⟩
    · rw [if_neg hlt, if_neg hlt]; rw [if_neg (fun h => hlt (hfl.1 h))] at hw hk; exact ⟨hw, hk⟩
  · have z : sumf (wonAt p) l = 0 := sumf_zero _ fun m hm => by simp [wonAt, hn m hm]
    have hw := H.won p hp
    have hk := H.mark p hp
    rw [z] at hw
    cases hb : fl p with
    | true => rw [hb] at hw; simp at hw
    | false => rw [hb] at hk; exact ⟨z, by simpa using hk⟩
/-- The work is as many as won. -/
theorem CI.work_end {P : List Int} {wk cy : Int} {was : Int → Int} {N : Nat} {L : List Int} {l : List Cm} {fl : Int → Bool} (H : CI P wk cy was N L l fl) (hd : ∀ m ∈ l, m.pc = 0) :
    L.getD wk.toNat 0 = sumf (fun m => if m.won = true then 1 else 0) l := by
  rw [H.work]
  clear H
  induction l with
  | nil => rfl
  | cons m l ih =>
    have := hd m (by simp)
    simp only [sumf]
    rw [ih (fun x hx => hd x (by simp [hx]))]
    simp [pend, this]

/-! Alone, and with others that change the mark. -/
def cruns (wk : Int) : Nat → List Int → Cm → List Int × Cm
  | 0, L, m => (L, m)
  | k + 1, L, m => cruns wk k (cstp wk L m).1 (cstp wk L m).2
theorem alone_marks {wk p cy : Int} {L : List Int} (hw : 0 ≤ wk ∧ wk < L.length) (hp : 0 ≤ p ∧ p < L.length) (hne : p ≠ wk) :
    cruns wk 4 L (cNew p cy) = if cy ≤ L.getD p.toNat 0 then (L, ⟨0, p, cy, L.getD p.toNat 0, false⟩) else (ptc (adc L wk 1) p cy, ⟨0, p, cy, L.getD p.toNat 0, true⟩) := by
  have hl := lc_in hp
  by_cases h : cy ≤ L.getD p.toNat 0
  · rw [if_pos h]
    have e1 : cstp wk L (cNew p cy) = (L, ⟨0, p, cy, L.getD p.toNat 0, false⟩) := by simp only [cstp, cNew, hl]; rw [if_pos trivial, if_pos h]
    have e4 : ∀ M, cstp wk M ⟨0, p, cy, L.getD p.toNat 0, false⟩ = (M, ⟨0, p, cy, L.getD p.toNat 0, false⟩) := fun M => by simp [cstp]
    simp only [cruns, e1, e4]
  · rw [if_neg h]
    have e : (adc L wk 1).getD p.toNat 0 = L.getD p.toNat 0 := pc_other hp.1 hne
    have el : (adc L wk 1).length = L.length := pc_len ..
    have e1 : cstp wk L (cNew p cy) = (L, ⟨2, p, cy, L.getD p.toNat 0, false⟩) := by simp only [cstp, cNew, hl]; rw [if_pos trivial, if_neg h]
    have e2 : cstp wk L ⟨2, p, cy, L.getD p.toNat 0, false⟩ = (adc L wk 1, ⟨3, p, cy, L.getD p.toNat 0, false⟩) := by simp [cstp]
    have e3 : cstp wk (adc L wk 1) ⟨3, p, cy, L.getD p.toNat 0, false⟩ = (ptc (adc L wk 1) p cy, ⟨0, p, cy, L.getD p.toNat 0, true⟩) := by
      simp only [cstp]; rw [if_neg (by decide), if_neg (by decide), if_pos trivial, if_pos ⟨⟨hp.1, by omega⟩, e⟩]
    have e4 : ∀ M, cstp wk M ⟨0, p, cy, L.getD p.toNat 0, true⟩ = (M, ⟨0, p, cy, L.getD p.toNat 0, true⟩) := fun M => by simp [cstp]
    simp only [cruns, e1, e2, e3, e4]
/-- The work is what the one machine has added, whatever others do to its mark. -/
def C1 (wk : Int) (L : List Int) (m : Cm) : Prop := (0 ≤ wk ∧ wk < L.length) ∧ (0 ≤ m.p ∧ m.p < L.length ∧ m.p ≠ wk) ∧ m.pc ≤ 4 ∧ (m.pc ≠ 0 → m.won = false) ∧ L.getD wk.toNat 0 = pend m
theorem C1.poke {wk v : Int} {L : List Int} {m : Cm} (H : C1 wk L m) : C1 wk (ptc L m.p v) m := by
  obtain ⟨a, b, c, d, e⟩ := H
  exact ⟨by rw [pc_len]; exact a, by rw [pc_len]; exact b, c, d, by rw [pc_other a.1 (fun h => b.2.2 h.symm)]; exact e⟩
theorem C1.step {wk : Int} {L : List Int} {m : Cm} (H : C1 wk L m) : C1 wk (cstp wk L m).1 (cstp wk L m).2 := by
  obtain ⟨a, b, c, d, e⟩ := H
  obtain ⟨pc, p, cy, k, won⟩ := m
  simp only at b c d e
  have hl := lc_in a
  have ad : ∀ x : Int, (adc L wk x).getD wk.toNat 0 = (L.getD wk.toNat 0 + x) % 18446744073709551616 := fun x => by unfold adc; rw [hl]; exact pc_same a
  have al : ∀ x : Int, (adc L wk x).length = L.length := fun x => pc_len ..
  match pc, c with
  | 0, _ => have h : cstp wk L ⟨0, p, cy, k, won⟩ = (L, ⟨0, p, cy, k, won⟩) := by simp [cstp]
            rw [h]; exact ⟨a, b, by simp, d, e⟩
  | 1, _ =>
    have hwf := d (by simp)
    subst hwf
    have h : cstp wk L ⟨1, p, cy, k, false⟩ = (L, if cy ≤ ldc L p then ⟨0, p, cy, ldc L p, false⟩ else ⟨2, p, cy, ldc L p, false⟩) := by simp [cstp]
    rw [h]
    have e0 : pend ⟨1, p, cy, k, false⟩ = 0 := by simp [pend]
    by_cases hc : cy ≤ ldc L p
    · rw [if_pos hc]; exact ⟨a, b, by simp, by simp, by rw [e, e0]; simp [pend]⟩
    · rw [if_neg hc]; exact ⟨a, b, by simp, by simp, by rw [e, e0]; simp [pend]⟩
  | 2, _ =>
    have hwf := d (by simp)
    subst hwf
    have h : cstp wk L ⟨2, p, cy, k, false⟩ = (adc L wk 1, ⟨3, p, cy, k, false⟩) := by simp [cstp]
    rw [h]
    exact ⟨by rw [al]; exact a, by rw [al]; exact b, by simp, by simp, by rw [ad, e]; simp [pend]⟩
  | 3, _ =>
    have hwf := d (by simp)
    subst hwf
    have h : cstp wk L ⟨3, p, cy, k, false⟩ = if (0 ≤ p ∧ p < L.length) ∧ L.getD p.toNat 0 = k then (ptc L p cy, ⟨0, p, cy, k, true⟩) else (L, ⟨4, p, cy, k, false⟩) := by simp only [cstp]; rw [if_neg (by decide), if_neg (by decide), if_pos trivial]
    rw [h]
    split
    · exact ⟨by rw [pc_len]; exact a, by rw [pc_len]; exact b, by simp, by simp, by rw [pc_other a.1 (fun h => b.2.2 h.symm), e]; simp [pend]⟩
    · exact ⟨a, b, by simp, by simp, by rw [e]; simp [pend]⟩
  | 4, _ =>
    have hwf := d (by simp)
    subst hwf
    have h : cstp wk L ⟨4, p, cy, k, false⟩ = (adc L wk 18446744073709551615, ⟨0, p, cy, k, false⟩) := by simp [cstp]
    rw [h]
    exact ⟨by rw [al]; exact a, by rw [al]; exact b, by simp, by simp, by rw [ad, e]; simp [pend]⟩
end Go.Proofs.YtpocihddecemfaaGreat

namespace Go.Proofs.YtpocihddecemfaaGreat
open Go.RowKit
set_option linter.unusedVariables false
set_option maxRecDepth 100000

theorem made_words (n : Nat) : (madeCells (Value.int .u64 0).cells n).toList = List.replicate n (.int .u64 0) := by
  apply List.ext_getElem?
  intro j
  by_cases hj : j < n
  · simp [madeCells, hj, Value.cells, Nat.mod_one]
  · simp [madeCells, hj]
theorem make_words (n : Nat) (w : World) (hn : n ≤ 1000000) : (Instr.makeSlice 26 (.int .i64 (n : Int)) (.int .i64 (n : Int))).run Tryz.prog w = .ok (.slice (some ⟨w.heap.size, 0, none⟩) n n) (w.alloc (.cells ((List.replicate n (0 : Int)).map (Value.int .u64)).toArray 25)) := by
  obtain ⟨i0, hi, hz0, hz1, hz2⟩ := info_parts info34
  have := run_make w 26 25 i0 (.int .u64 0) Tryz.underlying26 hi hz0 .i64 .i64 n n (by omega) (Int.le_refl _) (by rw [hz2]; omega) (by omega)
  have e : madeCells (Value.int .u64 0).cells n = ((List.replicate n (0 : Int)).map (Value.int .u64)).toArray := by
    apply Array.ext'
    rw [made_words]; simp
  simpa [hz1, e] using this
theorem row_new (w : World) (L : List Int) : Row (w.alloc (.cells (L.map (Value.int .u64)).toArray 25)) w.heap.size L := by
  show (w.heap.push _)[w.heap.size]? = _
  simp
theorem splice_all {α : Type} (L cs : List α) (h : cs.length = L.length) : splice L 0 cs = cs := by
  simp [splice, h]

/-- Words in new memory. -/
def SomeRow (w : World) (L : List Int) (e : Ending) (w' : World) : Prop :=
  e = .returned (.slice (some ⟨w.heap.size, 0, none⟩) L.length L.length) ∧ Row w' w.heap.size L ∧ Below w.heap.size w w'

set_option maxHeartbeats 1000000 in
theorem copied_any (A : Option Addr) (n cap : Nat) (zs : List Int) (w : World) (hn : n = zs.length) (h : Reads .u64 w A zs) (hl : n ≤ 1000000) :
    Calls Tryz.prog 42 #[.slice A n cap] w (SomeRow w zs) := by
  have hmk := make_words n w hl
  have HRow := Lib.hid (row_new w (List.replicate n (0 : Int)))
  obtain ⟨V, hV⟩ : ∃ V, V = (List.replicate n (0 : Int)).map (Value.int .u64) := ⟨_, rfl⟩
  obtain ⟨X, hX⟩ : ∃ X, X = zs.map (Value.int .u64) := ⟨_, rfl⟩
  rw [← hV] at hmk
  obtain ⟨W1, hW1⟩ : ∃ W1, W1 = w.alloc (.cells V.toArray 25) := ⟨_, rfl⟩
  have hb1 : Below w.heap.size w W1 := by rw [hW1]; exact below_alloc0 (Below.refl _ _) _
  have hrow : W1.heap[w.heap.size]? = some (.cells V.toArray 25 (0, 0)) := by rw [hW1, hV]; exact HRow.out
  rw [← hW1] at hmk
  have hVl : V.length = n := by rw [hV]; simp
  have hXl : X.length = n := by rw [hX, hn]; simp
  have hXc : ∀ v ∈ X, v.oneCell' = true := by
    rw [hX]; intro v hv
    obtain ⟨x, _, rfl⟩ := List.mem_map.1 hv
    rfl
  have hsrc : 0 < X.length → (some (⟨w.heap.size, 0, none⟩ : Addr)) = some ⟨w.heap.size, 0, none⟩ ∧ ∃ ad, A = some ad ∧ ∀ j v, X[j]? = some v → W1.cell? (ad.add j) = some v := fun h0 => by
    refine ⟨rfl, ?_⟩
    obtain ⟨b, off, rfl, hlt, hc⟩ := (h.below hb1 (Nat.le_refl _)) (by omega)
    refine ⟨_, rfl, fun j v hj => ?_⟩
    have hjn : j < zs.length := by
      rcases Nat.lt_or_ge j zs.length with h' | h'
      · exact h'
      · rw [hX, List.getElem?_eq_none (by simpa using h')] at hj; cases hj
    rw [add_off, hc j hjn]
    rw [hX, map_get .u64 zs j hjn] at hj
    exact hj
  have HB1 := Lib.hid hb1; have HROW := Lib.hid hrow; have HVL := Lib.hid hVl; have HXL := Lib.hid hXl; have HXC := Lib.hid hXc; have HS := Lib.hid hsrc; have HN := Lib.hid hn; have HX := Lib.hid hX
  clear hb1 hrow hVl hXl hXc hsrc hn hX h hW1 hV
  go_enter Tryz.func42, Tryz.ntmps42
  go_wp2_with (first
    | (with_reducible refine wpList_copy_splice rfl _ _ 26 26 rfl 25 Tryz.underlying26 (by kernel_rfl) (some ⟨w.heap.size, 0, none⟩) A n n n cap rfl rfl w.heap.size 0 V 25 HROW.out X (by rw [HXL.out]; simp) HS.out (by have := HVL.out; have := HXL.out; omega) HXC.out w.heap.size w HB1.out (Nat.le_refl _) ?_; intro w2 hg2 hb2)
    | fail)
  go_ret
  refine ⟨?_, ?_, hb2⟩
  · rw [HN.out]; rfl
  · have := hg2.out
    rw [splice_all V X (by rw [HXL.out, HVL.out]), HX.out] at this
    exact this

/-- A store that has been made, of these words. -/
def SomeNew (w : World) (L : List Int) (e : Ending) (w' : World) : Prop :=
  ∃ S D, e = .returned (ptr S) ∧ w.heap.size ≤ S ∧ w.heap.size ≤ D ∧ St w' S D L 0 ∧ Below w.heap.size w w'
theorem new_st {w w1 : World} {L : List Int} {n : Nat} (hn : n = L.length) (hr : Row w1 w.heap.size L) (hb : Below w.heap.size w w1) :
    SomeNew w L (.returned (ptr w1.heap.size)) (w1.alloc (.cells #[.slice (some ⟨w.heap.size, 0, none⟩) n n, .int .i64 0] 101)) := by
  have hlt := hr.lt
  refine ⟨w1.heap.size, w.heap.size, rfl, hb.size, Nat.le_refl _, ⟨by omega, ?_, ?_⟩, below_alloc0 hb _⟩
  · rw [hn]
    show (w1.heap.push _)[w1.heap.size]? = _
    simp
  · exact (Below.heap_alloc _ _ _ hlt).trans hr

set_option maxHeartbeats 1000000 in
theorem new_any (A : Option Addr) (n cap : Nat) (zs : List Int) (w : World) (hn : n = zs.length) (h : Reads .u64 w A zs) (hl : n ≤ 1000000) :
    Calls Tryz.prog 31 #[.slice A n cap] w (SomeNew w zs) := by
  have H := Lib.hid h; have HN := Lib.hid hn
  clear h hn
  go_enter Tryz.func31, Tryz.ntmps31
  go_wp2_with (first
    | (go_at_call 42; (with_reducible refine (copied_any A n cap zs _ HN.out H.out hl).mono ?_); rintro r w1 ⟨rfl, hr, hb⟩; rw [← HN.out]; have HK := Lib.hid (new_st HN.out hr hb); clear hr hb)
    | fail)
  go_ret
  exact HK.out

set_option maxHeartbeats 1000000 in
theorem all_any {S D : Nat} {L : List Int} {c : Int} (w : World) (h : St w S D L c) (hl : L.length ≤ 1000000) :
    Calls Tryz.prog 13 #[ptr S] w (SomeRow w L) := by
  have hc := h.head
  have H := Lib.hid h.row.reads
  clear h
  obtain ⟨n, hn⟩ : ∃ n, n = L.length := ⟨_, rfl⟩
  rw [← hn] at hc hl
  have HN := Lib.hid hn; clear hn
  go_enter Tryz.func13, Tryz.ntmps13
  go_wp2_with (first
    | (go_at_call 42; (with_reducible refine (copied_any _ n _ L _ HN.out H.out hl).mono ?_); rintro r w1 ⟨rfl, hr⟩; rw [← HN.out]; have HK := Lib.hid hr; clear hr)
    | fail)
  go_ret
  exact ⟨by rw [HN.out]; rfl, HK.out⟩
end Go.Proofs.YtpocihddecemfaaGreat

namespace Go.Proofs.YtpocihddecemfaaGreat
open Go.RowKit
set_option linter.unusedVariables false

/-- A store of the call's own. -/
def Own (B S D : Nat) (w0 w : World) (L : List Int) (c : Int) : Prop := B ≤ S ∧ B ≤ D ∧ B ≤ w0.heap.size ∧ St w S D L c ∧ Below B w0 w
theorem Own.of_new {w0 w w' : World} {B S D : Nat} {L : List Int} (hb : Below B w0 w) (hB : B ≤ w0.heap.size) (hS : w.heap.size ≤ S) (hD : w.heap.size ≤ D) (h : St w' S D L 0) (hb' : Below w.heap.size w w') : Own B S D w0 w' L 0 := by
  have := hb.size
  exact ⟨by omega, by omega, hB, h, below_step hb (by omega) hb'⟩
theorem Own.left {w0 w w' : World} {B S D : Nat} {L L' : List Int} {c c' : Int} (h : Own B S D w0 w L c) (k : Left S D L' c' w w') : Own B S D w0 w' L' c' :=
  ⟨h.1, h.2.1, h.2.2.1, k.1, below_upd h.2.2.2.2 h.2.2.1 k.2 h.1 h.2.1⟩
theorem Own.step {w0 w w' : World} {B S D : Nat} {L : List Int} {c : Int} (h : Own B S D w0 w L c) (k : Below w.heap.size w w') : Own B S D w0 w' L c :=
  ⟨h.1, h.2.1, h.2.2.1, h.2.2.2.1.below k, below_step h.2.2.2.2 (Nat.le_trans h.2.2.1 h.2.2.2.2.size) k⟩
theorem Own.st {w0 w : World} {B S D : Nat} {L : List Int} {c : Int} (h : Own B S D w0 w L c) : St w S D L c := h.2.2.2.1
theorem Own.bel {w0 w : World} {B S D : Nat} {L : List Int} {c : Int} (h : Own B S D w0 w L c) : Below B w0 w := h.2.2.2.2

theorem reads_lit2 (w : World) (x y : Int) : Reads .u64 (w.alloc (.cells #[.int .u64 x, .int .u64 y] 25)) (some ⟨w.heap.size, 0, none⟩) [x, y] := fun _ =>
  ⟨w.heap.size, 0, rfl, by simp, fun j hj => by
    rw [Nat.zero_add, World.cell?_alloc_at _ _ _ _ rfl]
    match j, hj with
    | 0, _ => rfl
    | 1, _ => rfl⟩
theorem reads_lit1 (w : World) (x : Int) : Reads .u64 (w.alloc (.cells #[.int .u64 x] 25)) (some ⟨w.heap.size, 0, none⟩) [x] := fun _ =>
  ⟨w.heap.size, 0, rfl, by simp, fun j hj => by
    rw [Nat.zero_add, World.cell?_alloc_at _ _ _ _ rfl]
    match j, hj with
    | 0, _ => rfl⟩

end Go.Proofs.YtpocihddecemfaaGreat

namespace Go.Proofs.YtpocihddecemfaaGreat
open Go.RowKit
set_option linter.unusedVariables false

/-- Two stores of the call's own. -/
structure Two (B S D E F : Nat) (w0 w : World) (L : List Int) (c : Int) (M : List Int) (d : Int) : Prop where
  one : Own B S D w0 w L c
  two : Own B E F w0 w M d
  n1 : S ≠ E
  n2 : S ≠ F
  n3 : D ≠ E
  n4 : D ≠ F
theorem Two.of_new {B S D E F : Nat} {w0 w w' : World} {L M : List Int} {c : Int} (h : Own B S D w0 w L c) (hE : w.heap.size ≤ E) (hF : w.heap.size ≤ F) (hs : St w' E F M 0) (hb : Below w.heap.size w w') : Two B S D E F w0 w' L c M 0 := by
  have h1 := h.st.ltS
  have h2 := h.st.row.lt
  exact ⟨h.step hb, Own.of_new h.bel h.2.2.1 hE hF hs hb, by omega, by omega, by omega, by omega⟩
theorem Two.left1 {B S D E F : Nat} {w0 w w' : World} {L L' M : List Int} {c c' d : Int} (h : Two B S D E F w0 w L c M d) (k : Left S D L' c' w w') : Two B S D E F w0 w' L' c' M d :=
  ⟨h.one.left k, ⟨h.two.1, h.two.2.1, h.two.2.2.1, h.two.st.upd k.2 (Ne.symm h.n1) (Ne.symm h.n3) (Ne.symm h.n2) (Ne.symm h.n4), (h.one.left k).bel⟩, h.n1, h.n2, h.n3, h.n4⟩
theorem Two.left2 {B S D E F : Nat} {w0 w w' : World} {L M M' : List Int} {c d d' : Int} (h : Two B S D E F w0 w L c M d) (k : Left E F M' d' w w') : Two B S D E F w0 w' L c M' d' :=
  ⟨⟨h.one.1, h.one.2.1, h.one.2.2.1, h.one.st.upd k.2 h.n1 h.n2 h.n3 h.n4, (h.two.left k).bel⟩, h.two.left k, h.n1, h.n2, h.n3, h.n4⟩
theorem Two.step {B S D E F : Nat} {w0 w w' : World} {L M : List Int} {c d : Int} (h : Two B S D E F w0 w L c M d) (k : Below w.heap.size w w') : Two B S D E F w0 w' L c M d :=
  ⟨h.one.step k, h.two.step k, h.n1, h.n2, h.n3, h.n4⟩
theorem Two.st1 {B S D E F : Nat} {w0 w : World} {L M : List Int} {c d : Int} (h : Two B S D E F w0 w L c M d) : St w S D L c := h.one.st
theorem Two.st2 {B S D E F : Nat} {w0 w : World} {L M : List Int} {c d : Int} (h : Two B S D E F w0 w L c M d) : St w E F M d := h.two.st
theorem Two.bel {B S D E F : Nat} {w0 w : World} {L M : List Int} {c d : Int} (h : Two B S D E F w0 w L c M d) : Below B w0 w := h.one.bel
end Go.Proofs.YtpocihddecemfaaGreat

namespace Go.Proofs.YtpocihddecemfaaGreat
open Go.RowKit
set_option linter.unusedVariables false
set_option linter.unusedSimpArgs false

/-- Blocks of F alone may have changed. -/
structure UF (F : Nat → Prop) (w w' : World) : Prop where
  os : w'.os = w.os
  tape : w'.tape = w.tape
  output : w'.output = w.output
  size : w.heap.size ≤ w'.heap.size
  block : ∀ k, k < w.heap.size → ¬ F k → w'.heap[k]? = w.heap[k]?
theorem UF.refl (F : Nat → Prop) (w : World) : UF F w w := ⟨rfl, rfl, rfl, Nat.le_refl _, fun _ _ _ => rfl⟩
theorem UF.trans {F G H : Nat → Prop} {a b c : World} (h : UF F a b) (k : UF G b c) (hF : ∀ x, F x → H x) (hG : ∀ x, x < a.heap.size → G x → H x) : UF H a c :=
  ⟨k.os.trans h.os, k.tape.trans h.tape, k.output.trans h.output, Nat.le_trans h.size k.size, fun i hi hn => (k.block i (Nat.lt_of_lt_of_le hi h.size) (fun g => hn (hG i hi g))).trans (h.block i hi (fun f => hn (hF i f)))⟩
theorem UF.mono {F H : Nat → Prop} {a b : World} (h : UF F a b) (hF : ∀ x, x < a.heap.size → F x → H x) : UF H a b :=
  ⟨h.os, h.tape, h.output, h.size, fun i hi hn => h.block i hi (fun f => hn (hF i hi f))⟩
theorem UF.of_below {F : Nat → Prop} {w w' : World} (h : Below w.heap.size w w') : UF F w w' := ⟨h.os, h.tape, h.output, h.size, fun k hk _ => h.block k hk⟩
theorem UF.of_upd {S D : Nat} {w w' : World} (h : Upd S D w w') : UF (fun k => k = S ∨ k = D) w w' := ⟨h.os, h.tape, h.output, h.size, fun k hk hn => h.block k hk (fun e => hn (.inl e)) (fun e => hn (.inr e))⟩
theorem UF.set (w : World) (B i : Nat) (v : Value) : UF (fun k => k = B) w (w.setCell ⟨B, i, none⟩ v) := ⟨rfl, rfl, rfl, by simp, fun k _ hn => heap_setCell_other w ⟨B, i, none⟩ k v hn⟩
theorem below_uf {B : Nat} {F : Nat → Prop} {w0 w w' : World} (h : Below B w0 w) (hB : B ≤ w0.heap.size) (u : UF F w w') (hF : ∀ k, F k → B ≤ k) : Below B w0 w' :=
  h.trans ⟨u.os, u.tape, u.output, u.size, fun k hk => u.block k (Nat.lt_of_lt_of_le hk (Nat.le_trans hB h.size)) (fun f => by have := hF k f; omega)⟩
theorem IsMap_same {w w' : World} {N : Nat} {c : Lay.Cfg} (h : Lay.IsMap w N c) (hs : w.heap.size ≤ w'.heap.size) (hb : w'.heap[N]? = w.heap[N]?) : Lay.IsMap w' N c :=
  ⟨Nat.lt_of_lt_of_le h.1 hs, fun i hi => (World.cell?_of_block (w := w) (a := ⟨N, i, none⟩) hb).trans (h.2 i hi)⟩
theorem St_same {w w' : World} {S D : Nat} {L : List Int} {c : Int} (h : St w S D L c) (h1 : w'.heap[S]? = w.heap[S]?) (h2 : w'.heap[D]? = w.heap[D]?) : St w' S D L c :=
  ⟨h.ne, h1.trans h.top, h2.trans h.row⟩

end Go.Proofs.YtpocihddecemfaaGreat

namespace Go.Proofs.YtpocihddecemfaaGreat
open Go.RowKit
set_option linter.unusedVariables false

set_option maxHeartbeats 1000000 in
theorem add_any {S D : Nat} {L : List Int} {c : Int} (at' v : Int) (w : World) (h : St w S D L c) (h0 : 0 ≤ c) (h1 : c ≤ 1000000000) :
    Calls Tryz.prog 101 #[ptr S, .int .i64 at', .int .u64 v] w fun e w' => e = .returned (.int .u64 (ldv L at')) ∧ Left S D (adv L at' v) (c + 1) w w' := by
  obtain ⟨b, hb⟩ : ∃ b, b = inB L at' := ⟨_, rfl⟩
  have H := Lib.hid h; clear h
  cases b
  · have e : ldv L at' = 0 := by unfold ldv; rw [if_neg (by rw [← hb]; simp)]
    have e2 : adv L at' v = L := by unfold adv ptv; rw [if_neg (by rw [← hb]; simp)]
    rw [e, e2]
    have HB := Lib.hid hb; clear hb e e2
    go_enter Tryz.func101, Tryz.ntmps101
    go_wp2_with (first
      | (go_at_call 58; (with_reducible refine (reaches_any _ _ H.out h0 h1).mono ?_); rintro r w1 ⟨rfl, hk⟩; rw [← HB.out])
      | fail)
    go_ret
    exact ⟨rfl, hk⟩
  · have hi := in_yes hb.symm
    obtain ⟨i, rfl⟩ : ∃ i : Nat, at' = (i : Int) := ⟨at'.toNat, by omega⟩
    have hil : i < L.length := by omega
    have e : ldv L i = L.getD i 0 := by unfold ldv; rw [if_pos hb.symm]; simp
    have e2 : adv L i v = L.set i (IntKind.u64.wrap (L.getD i 0 + v)) := by unfold adv ptv; rw [if_pos hb.symm, e]; simp
    rw [e, e2]
    obtain ⟨n, hn⟩ : ∃ n, n = L.length := ⟨_, rfl⟩
    rw [← hn] at hi hil
    have HN := Lib.hid hn
    have HB := Lib.hid hb
    have HI := Lib.hid hil
    obtain ⟨z, hz⟩ : ∃ z, z = L.getD i 0 := ⟨_, rfl⟩
    rw [← hz]
    obtain ⟨y, hy⟩ : ∃ y, y = IntKind.u64.wrap (z + v) := ⟨_, rfl⟩
    rw [← hy]
    have HZ := Lib.hid hz
    have hi0 : (0 : Int) ≤ (i : Int) := by omega
    have hi1 : (i : Int) < (n : Int) := by omega
    have hy' := hy.symm
    clear hb e e2 hn hz hi hil hy
    go_enter Tryz.func101, Tryz.ntmps101
    go_wp2_with (first
      | (go_at_call 58; (with_reducible refine (reaches_any _ _ H.out h0 h1).mono ?_); rintro r w1 ⟨rfl, hk⟩; rw [← HB.out]; have hd := hk.1.head; rw [← HN.out] at hd; have hcl := hk.1.row.cell i (by have := HN.out; have := HI.out; omega); rw [← HZ.out] at hcl; have hfr := hk.1.row.frozen i; have HK := Lib.hid (left_set hk i y); clear hk)
      | fail)
    go_ret
    exact ⟨rfl, HK.out⟩


def SomeSlI (P : Nat → Prop) (w : World) (n : Nat) (zs : List Int) (x : Int) (e : Ending) (w' : World) : Prop :=
  ∃ A cap, e = .returned (.tuple #[.slice A n cap, .int .u64 x]) ∧ ReadsW P w' A zs ∧ Below w.heap.size w w'

set_option maxHeartbeats 2000000 in
theorem radd_any (P : Nat → Prop) (A : Option Addr) (n cap : Nat) (zs : List Int) (at' v : Int) (w : World) (hn : n = zs.length) (hl : n ≤ 1000000) (h : ReadsW P w A zs) (hP : ∀ b, w.heap.size ≤ b → P b) :
    Calls Tryz.prog 49 #[.slice A n cap, .int .i64 at', .int .u64 v] w (SomeSlI P w n (adv zs at' v) (ldv zs at')) := by
  obtain ⟨z, hz⟩ : ∃ z, z = ldv zs at' := ⟨_, rfl⟩
  have he : adv zs at' v = ptv zs at' (IntKind.u64.wrap (z + v)) := by rw [hz]; rfl
  obtain ⟨y, hy⟩ : ∃ y, y = IntKind.u64.wrap (z + v) := ⟨_, rfl⟩
  rw [← hy] at he
  rw [he, ← hz]
  have H := Lib.hid h; have HN := Lib.hid hn; have HZ := Lib.hid hz
  have hy' := hy.symm
  clear h hn hz he hy
  go_enter Tryz.func49, Tryz.ntmps49
  go_wp2_with (first
    | (go_at_call 53; (with_reducible refine (rload_any A n cap zs _ _ HN.out H.out.reads).mono ?_); rintro r w1 ⟨rfl, rfl⟩; rw [← HZ.out])
    | (go_at_call 22; (with_reducible refine (rput_any P A n cap zs _ _ _ HN.out hl H.out hP).mono ?_); rintro r w1 ⟨A2, cap2, rfl, hk⟩; have HK := Lib.hid hk; clear hk)
    | fail)
  go_ret2
  exact ⟨A2, cap2, rfl, HK.out⟩


/-- How many accesses there were. -/
theorem cnt_cl {S D : Nat} {L : List Int} {c : Int} (w : World) (h : St w S D L c) : Calls Tryz.prog 16 #[ptr S] w fun a w' => a = .returned (.int .i64 c) ∧ w = w' := by
  have hc := h.many
  clear h
  go_enter Tryz.func16, Tryz.ntmps16
  go_wp2
  go_ret
  exact ⟨rfl, rfl⟩


end Go.Proofs.YtpocihddecemfaaGreat

namespace Go.Proofs.YtpocihddecemfaaGreat
open Go.RowKit
set_option linter.unusedVariables false
set_option linter.unusedSimpArgs false

abbrev fnc (n X : Nat) : Value := .func (.func n) #[ptr X] #[]
/-- The method that is next. -/
def nxV (X : Nat) : Nat → Value
  | 1 => fnc 130 X
  | 2 => fnc 141 X
  | 3 => fnc 148 X
  | 4 => fnc 156 X
  | _ => .nilFunc
/-- A machine's block. -/
def Cb (w : World) (X : Nat) (wk p cy : Int) (nx : Value) (k : Int) (won : Bool) : Prop :=
  w.heap[X]? = some (.cells #[.int .i64 wk, .int .i64 p, .int .u64 cy, nx, .int .u64 k, .bool won] 183 (0, 0))
section
variable {w w' : World} {X : Nat} {wk p cy k : Int} {nx : Value} {won : Bool}
theorem Cb.lt (h : Cb w X wk p cy nx k won) : X < w.heap.size := (Array.getElem?_eq_some_iff.1 h).1
theorem Cb.f (h : Cb w X wk p cy nx k won) (j : Nat) : w.frozen? ⟨X, j, none⟩ = false := frozen_of_row w X j _ _ h
theorem Cb.c0 (h : Cb w X wk p cy nx k won) : w.cell? ⟨X, 0, none⟩ = some (.int .i64 wk) := by have := h; unfold Cb at this; simp [World.cell?, this]
theorem Cb.c1 (h : Cb w X wk p cy nx k won) : w.cell? ⟨X, 1, none⟩ = some (.int .i64 p) := by have := h; unfold Cb at this; simp [World.cell?, this]
theorem Cb.c2 (h : Cb w X wk p cy nx k won) : w.cell? ⟨X, 2, none⟩ = some (.int .u64 cy) := by have := h; unfold Cb at this; simp [World.cell?, this]
theorem Cb.c3 (h : Cb w X wk p cy nx k won) : w.cell? ⟨X, 3, none⟩ = some nx := by have := h; unfold Cb at this; simp [World.cell?, this]
theorem Cb.c4 (h : Cb w X wk p cy nx k won) : w.cell? ⟨X, 4, none⟩ = some (.int .u64 k) := by have := h; unfold Cb at this; simp [World.cell?, this]
theorem Cb.c5 (h : Cb w X wk p cy nx k won) : w.cell? ⟨X, 5, none⟩ = some (.bool won) := by have := h; unfold Cb at this; simp [World.cell?, this]
theorem Cb.put (h : Cb w X wk p cy nx k won) (i : Nat) (y : Value) {wk' p' cy' k' : Int} {nx' : Value} {won' : Bool}
    (hh : (#[.int .i64 wk, .int .i64 p, .int .u64 cy, nx, .int .u64 k, .bool won] : Array Value).setIfInBounds i y = #[.int .i64 wk', .int .i64 p', .int .u64 cy', nx', .int .u64 k', .bool won']) :
    Cb (w.setCell ⟨X, i, none⟩ y) X wk' p' cy' nx' k' won' := by
  unfold Cb
  rw [heap_setCell_same w X i _ 183 _ h, hh]
end
/-- A machine and a store, apart; what changed since. -/
structure Cs (w0 w : World) (X S D : Nat) (wk p cy : Int) (nx : Value) (k : Int) (won : Bool) (L : List Int) (cc : Int) : Prop where
  mem : Cb w X wk p cy nx k won
  st : St w S D L cc
  n : X ≠ S ∧ X ≠ D
  u : UF (fun b => b = X ∨ b = S ∨ b = D) w0 w
section
variable {w0 w w' : World} {X S D : Nat} {wk p cy k : Int} {nx : Value} {won : Bool} {L : List Int} {cc : Int}
theorem Cs.step (h : Cs w0 w X S D wk p cy nx k won L cc) (kb : Below w.heap.size w w') : Cs w0 w' X S D wk p cy nx k won L cc :=
  ⟨(kb.block X h.mem.lt).trans h.mem, h.st.below kb, h.n, h.u.trans (.of_below (F := fun _ => False) kb) (fun _ x => x) (fun _ _ x => x.elim)⟩
theorem Cs.drew (h : Cs w0 w X S D wk p cy nx k won L cc) : Cs w0 w.drew X S D wk p cy nx k won L cc := h.step (Below.refl _ _).drew
theorem Cs.left (h : Cs w0 w X S D wk p cy nx k won L cc) {L' : List Int} {c' : Int} (kb : Left S D L' c' w w') : Cs w0 w' X S D wk p cy nx k won L' c' :=
  ⟨(kb.2.block X h.mem.lt h.n.1 h.n.2).trans h.mem, kb.1, h.n, h.u.trans (.of_upd kb.2) (fun _ x => x) (fun _ _ x => .inr x)⟩
theorem Cs.put (h : Cs w0 w X S D wk p cy nx k won L cc) (i : Nat) (y : Value) {wk' p' cy' k' : Int} {nx' : Value} {won' : Bool}
    (hh : (#[.int .i64 wk, .int .i64 p, .int .u64 cy, nx, .int .u64 k, .bool won] : Array Value).setIfInBounds i y = #[.int .i64 wk', .int .i64 p', .int .u64 cy', nx', .int .u64 k', .bool won']) :
    Cs w0 (w.setCell ⟨X, i, none⟩ y) X S D wk' p' cy' nx' k' won' L cc :=
  ⟨h.mem.put i y hh, St_same h.st (heap_setCell_other w ⟨X, i, none⟩ S y (Ne.symm h.n.1)) (heap_setCell_other w ⟨X, i, none⟩ D y (Ne.symm h.n.2)), h.n, h.u.trans (UF.set w X i y) (fun _ x => x) (fun _ _ e => .inl e)⟩
theorem Cs.p3 (h : Cs w0 w X S D wk p cy nx k won L cc) (y : Value) : Cs w0 (w.setCell ⟨X, 3, none⟩ y) X S D wk p cy y k won L cc := h.put 3 _ rfl
theorem Cs.p4 (h : Cs w0 w X S D wk p cy nx k won L cc) (y : Int) : Cs w0 (w.setCell ⟨X, 4, none⟩ (.int .u64 y)) X S D wk p cy nx y won L cc := h.put 4 _ rfl
theorem Cs.p5 (h : Cs w0 w X S D wk p cy nx k won L cc) (y : Bool) : Cs w0 (w.setCell ⟨X, 5, none⟩ (.bool y)) X S D wk p cy nx k y L cc := h.put 5 _ rfl
/-- The cells that are read. -/
abbrev Cc (w : World) (X : Nat) (wk p cy k : Int) : Prop := w.cell? ⟨X, 0, none⟩ = some (.int .i64 wk) ∧ w.cell? ⟨X, 1, none⟩ = some (.int .i64 p) ∧ w.cell? ⟨X, 2, none⟩ = some (.int .u64 cy) ∧ w.cell? ⟨X, 4, none⟩ = some (.int .u64 k)
theorem Cs.rd (h : Cs w0 w X S D wk p cy nx k won L cc) : Cc w X wk p cy k := ⟨h.mem.c0, h.mem.c1, h.mem.c2, h.mem.c4⟩

set_option maxHeartbeats 1000000 in
theorem finish_cl (won' : Bool) (w : World) (h : Cs w0 w X S D wk p cy nx k won L cc) :
    Calls Tryz.prog 140 #[ptr X, .bool won'] w fun e w' => e = .returned (.tuple #[]) ∧ Cs w0 w' X S D wk p cy .nilFunc k won' L cc := by
  have h1 := h.p3 .nilFunc
  have q3 := h.mem.c3; have f3 := h.mem.f 3
  have q5 := h1.mem.c5; have f5 := h1.mem.f 5
  have H2 := Lib.hid (h1.p5 won')
  clear h h1
  go_enter Tryz.func140, Tryz.ntmps140
  go_wp2
  go_returns
  exact ⟨rfl, H2.out⟩

set_option maxHeartbeats 2000000 in
theorem seeMark_any (w : World) (h : Cs w0 w X S D wk p cy nx k won L cc) (h0 : 0 ≤ cc) (h1 : cc ≤ 1000000000) :
    Calls Tryz.prog 130 #[ptr X, ptr S] w fun e w' => e = .returned (.tuple #[]) ∧ Cs w0 w' X S D wk p cy (if cy ≤ ldv L p then .nilFunc else fnc 141 X) (ldv L p) (if cy ≤ ldv L p then false else won) L (cc + 1) := by
  have hmf : ∀ (fn : Fn) (first cap : Array Value) (w : World), (Instr.makeFunc fn first cap).run Tryz.prog w = .ok (.func fn first cap) w := fun _ _ _ _ => rfl
  have H := Lib.hid h
  have q1 := h.mem.c1
  clear h
  obtain ⟨z, hz⟩ : ∃ z, z = ldv L p := ⟨_, rfl⟩
  rw [← hz]
  have HZ := Lib.hid hz
  clear hz
  by_cases hc : cy ≤ z
  · have d : decide (z ≥ cy) = true := by simpa using hc
    simp only [if_pos hc]
    go_enter Tryz.func130, Tryz.ntmps130
    go_wp2_with (first
      | (go_at_call 27; (with_reducible refine (load_any _ _ H.out.st h0 h1).mono ?_); rintro r w1 ⟨rfl, hk⟩; rw [← HZ.out]; have q4 := (H.out.left hk).mem.c4; have f4 := (H.out.left hk).mem.f 4; have H1 := Lib.hid ((H.out.left hk).p4 z); clear hk)
      | fail)
    obtain ⟨r0, r1, r2, r4⟩ := H1.out.rd
    go_quiet (fail)
    have H2 := Lib.hid (H1.out.step (below_drewN (Below.refl _ _) nq))
    go_wp2_with (first
      | (go_at_call 140; (with_reducible refine (finish_cl false _ H2.out).mono ?_); rintro r w3 ⟨rfl, hk⟩; have H3 := Lib.hid hk; clear hk)
      | fail)
    go_returns
    exact ⟨rfl, H3.out⟩
  · have d : decide (z ≥ cy) = false := by simpa using hc
    simp only [if_neg hc]
    go_enter Tryz.func130, Tryz.ntmps130
    go_wp2_with (first
      | (go_at_call 27; (with_reducible refine (load_any _ _ H.out.st h0 h1).mono ?_); rintro r w1 ⟨rfl, hk⟩; rw [← HZ.out]; have q4 := (H.out.left hk).mem.c4; have f4 := (H.out.left hk).mem.f 4; have H1 := Lib.hid ((H.out.left hk).p4 z); clear hk)
      | fail)
    obtain ⟨r0, r1, r2, r4⟩ := H1.out.rd
    go_quiet (fail)
    have H2 := Lib.hid (H1.out.step (below_drewN (Below.refl _ _) nq))
    have r3 := H2.out.mem.c3; have f3 := H2.out.mem.f 3
    have H3 := Lib.hid (H2.out.p3 (fnc 141 X))
    go_wp2
    go_returns
    exact ⟨rfl, H3.out⟩

set_option maxHeartbeats 2000000 in
theorem countTask_any (w : World) (h : Cs w0 w X S D wk p cy nx k won L cc) (h0 : 0 ≤ cc) (h1 : cc ≤ 1000000000) :
    Calls Tryz.prog 141 #[ptr X, ptr S] w fun e w' => e = .returned (.tuple #[]) ∧ Cs w0 w' X S D wk p cy (fnc 148 X) k won (adv L wk 1) (cc + 1) := by
  have hmf : ∀ (fn : Fn) (first cap : Array Value) (w : World), (Instr.makeFunc fn first cap).run Tryz.prog w = .ok (.func fn first cap) w := fun _ _ _ _ => rfl
  have H := Lib.hid h
  have q0 := h.mem.c0
  clear h
  go_enter Tryz.func141, Tryz.ntmps141
  go_wp2_with (first
    | (go_at_call 101; (with_reducible refine (add_any _ _ _ H.out.st h0 h1).mono ?_); rintro r w1 ⟨rfl, hk⟩; have H1 := Lib.hid (H.out.left hk); clear hk; have q3 := H1.out.mem.c3; have f3 := H1.out.mem.f 3; have H2 := Lib.hid (H1.out.p3 (fnc 148 X)))
    | fail)
  go_returns
  exact ⟨rfl, H2.out⟩

set_option maxHeartbeats 2000000 in
theorem countBack_any (w : World) (h : Cs w0 w X S D wk p cy nx k won L cc) (h0 : 0 ≤ cc) (h1 : cc ≤ 1000000000) :
    Calls Tryz.prog 156 #[ptr X, ptr S] w fun e w' => e = .returned (.tuple #[]) ∧ Cs w0 w' X S D wk p cy .nilFunc k false (adv L wk 18446744073709551615) (cc + 1) := by
  have H := Lib.hid h
  have q0 := h.mem.c0
  clear h
  go_enter Tryz.func156, Tryz.ntmps156
  go_wp2_with (first
    | (go_at_call 101; (with_reducible refine (add_any _ _ _ H.out.st h0 h1).mono ?_); rintro r w1 ⟨rfl, hk⟩; have H1 := Lib.hid (H.out.left hk); clear hk)
    | (go_at_call 140; (with_reducible refine (finish_cl false _ H1.out).mono ?_); rintro r w3 ⟨rfl, hk⟩; have H3 := Lib.hid hk; clear hk)
    | fail)
  go_returns
  exact ⟨rfl, H3.out⟩

set_option maxHeartbeats 4000000 in
theorem mark_any (w : World) (h : Cs w0 w X S D wk p cy nx k won L cc) (h0 : 0 ≤ cc) (h1 : cc ≤ 1000000000) :
    Calls Tryz.prog 148 #[ptr X, ptr S] w fun e w' => e = .returned (.tuple #[]) ∧ Cs w0 w' X S D wk p cy (if swB L p k = true then .nilFunc else fnc 156 X) k (if swB L p k = true then true else won) (swv L p k cy) (cc + 1) := by
  have hmf : ∀ (fn : Fn) (first cap : Array Value) (w : World), (Instr.makeFunc fn first cap).run Tryz.prog w = .ok (.func fn first cap) w := fun _ _ _ _ => rfl
  obtain ⟨L', hL⟩ : ∃ L', L' = swv L p k cy := ⟨_, rfl⟩
  obtain ⟨b, hb⟩ : ∃ b, b = swB L p k := ⟨_, rfl⟩
  rw [← hL, ← hb]
  have hsw : Calls Tryz.prog 155 #[ptr S, .int .i64 p, .int .u64 k, .int .u64 cy] w fun e w' => e = .returned (.bool b) ∧ Left S D L' (cc + 1) w w' := by
    rw [hL, hb]; exact swap_any p k cy w h.st h0 h1
  have HSW : Hid (∀ w1, Cs w0 w1 X S D wk p cy nx k won L cc → Calls Tryz.prog 155 #[ptr S, .int .i64 p, .int .u64 k, .int .u64 cy] w1 fun e w' => e = .returned (.bool b) ∧ Left S D L' (cc + 1) w1 w') := Lib.hid (fun w1 h' => by
    rw [hL, hb]; exact swap_any p k cy w1 h'.st h0 h1)
  have HD := Lib.hid h.drew
  obtain ⟨q0, q1, q2, q4⟩ := h.rd
  clear h hL hb hsw
  cases b
  all_goals
    go_enter Tryz.func148, Tryz.ntmps148
    go_wp2
    go_region_held3 (fun w' => Cc w' X wk p cy k)
      (first | exact H1.out.rd | exact HD.out.rd | go_keep)
      (first
        | (go_at_call 155; (with_reducible refine (HSW.out _ HD.out).mono ?_); rintro r w1 ⟨rfl, hk⟩; have H1 := Lib.hid (HD.out.left hk); clear hk)
        | fail)
  · have r3 := H1.out.mem.c3; have f3 := H1.out.mem.f 3
    have H3 := Lib.hid (H1.out.p3 (fnc 156 X))
    go_wp2
    go_returns
    exact ⟨rfl, H3.out⟩
  · go_wp2_with (first
      | (go_at_call 140; (with_reducible refine (finish_cl true _ H1.out).mono ?_); rintro r w3 ⟨rfl, hk⟩; have H3 := Lib.hid hk; clear hk)
      | fail)
    go_returns
    exact ⟨rfl, H3.out⟩
end
end Go.Proofs.YtpocihddecemfaaGreat
