/- What is counted while a deque's machines run: each word that was pushed is taken once, or is left; and a machine that runs alone. -/
import Derived.Test.YtjnenpflpckimaaDqPure
namespace Go.Proofs.Ytjnenpflpckimaa
set_option linter.unusedVariables false
set_option linter.unusedSimpArgs false

/-- tk: how often each word was taken; pu: which words were pushed; v: all are at most so much; Q: what is in the deque; H: what is taken, and not yet told. -/
structure Ac (tk : List Int) (pu : List Bool) (v last : Int) (Q H : List Int) : Prop where
  range : ∀ q ∈ Q ++ H, 1 ≤ q ∧ q ≤ v
  sorted : Q.Pairwise (· < ·)
  late : ∀ q ∈ Q, last < q
  zero : 0 ≤ last
  low : last ≤ v
  len : pu.length = tk.length
  room : v + 1 < tk.length
  count : ∀ y : Nat, 1 ≤ y → y < tk.length → tk.getD y 0 + ((Q ++ H).count (y : Int) : Int) = if pu.getD y false = true then 1 else 0
  most : ∀ y : Nat, v < y → y < tk.length → pu.getD y false = false

section
variable {tk : List Int} {pu : List Bool} {v last : Int} {Q H : List Int}
theorem Ac.move (h : Ac tk pu v last Q H) {Q' H' : List Int} (e : Q ++ H = Q' ++ H') (hs : Q'.Sublist Q) : Ac tk pu v last Q' H' :=
  ⟨by rw [← e]; exact h.range, h.sorted.sublist hs, fun q hq => h.late q (hs.subset hq), h.zero, h.low, h.len, h.room, by rw [← e]; exact h.count, h.most⟩
theorem Ac.wider (h : Ac tk pu v last Q H) {v' : Int} (hv : v ≤ v') (hr : v' + 1 < tk.length) : Ac tk pu v' last Q H :=
  ⟨fun q hq => by have := h.range q hq; omega, h.sorted, h.late, h.zero, by have := h.low; omega, h.len, hr, h.count, fun y hy hl => h.most y (by omega) hl⟩
/-- A word is pushed. -/
theorem Ac.push (h : Ac tk pu v last Q []) (hv : 0 ≤ v) (hr : v + 2 < tk.length) : Ac tk (pu.set (v + 1).toNat true) (v + 1) last (Q ++ [v + 1]) [] := by
  have hlen := h.len
  have hl := h.low
  refine ⟨fun q hq => ?_, ?_, fun q hq => ?_, h.zero, by have := h.low; omega, by simp [h.len], by omega, fun y hy hyl => ?_, fun y hy hyl => ?_⟩
  · simp at hq
    rcases hq with hq | rfl
    · have := h.range q (by simpa using hq); omega
    · omega
  · refine List.pairwise_append.2 ⟨h.sorted, by simp, fun a ha b hb => ?_⟩
    simp at hb; subst hb
    have := h.range a (by simpa using ha); omega
  · simp at hq
    rcases hq with hq | rfl
    · exact h.late q hq
    · omega
  · have hc := h.count y hy hyl
    by_cases hy2 : (y : Int) = v + 1
    · have e : (v + 1).toNat = y := by omega
      have hm := h.most y (by omega) hyl
      rw [hm] at hc
      simp only [Bool.false_eq_true, if_false] at hc
      rw [e]
      have e2 : (pu.set y true).getD y false = true := by
        simp only [List.getD, List.getElem?_set, if_true]; rw [if_pos (by omega)]; rfl
      rw [e2, if_pos rfl]
      simp [List.count_append, hy2] at hc ⊢
      omega
    · have e2 : (pu.set (v + 1).toNat true).getD y false = pu.getD y false := by
        simp only [List.getD, List.getElem?_set]; rw [if_neg (by omega)]
      rw [e2, ← hc]
      have : ¬ (v + 1 = (y : Int)) := fun h => hy2 h.symm
      simp [List.count_append, List.count_cons, this]
  · have hm := h.most y (by omega) hyl
    have e2 : (pu.set (v + 1).toNat true).getD y false = pu.getD y false := by
      simp only [List.getD, List.getElem?_set]; rw [if_neg (by omega)]
    rw [e2]; exact hm
theorem Ac.tk_in (h : Ac tk pu v last Q H) {x : Int} (hx : x ∈ Q ++ H) : 1 ≤ x ∧ x ≤ v ∧ x.toNat < tk.length := by
  have := h.range x hx
  have := h.room
  omega
theorem Ac.took {tk : List Int} {pu : List Bool} {v last : Int} {Q H : List Int} (h : Ac tk pu v last Q H) {x last' : Int} {Q' H' : List Int} (hp : (Q ++ H).Perm (x :: (Q' ++ H'))) (hs : Q'.Sublist Q) (hl : ∀ q ∈ Q', last' < q) (h0 : 0 ≤ last') (h1 : last' ≤ v) :
    Ac (tk.set x.toNat (tk.getD x.toNat 0 + 1)) pu v last' Q' H' := by
  have hx := h.tk_in (x := x) (hp.mem_iff.2 (by simp))
  refine ⟨fun q hq => h.range q (hp.mem_iff.2 (List.mem_cons_of_mem _ hq)), h.sorted.sublist hs, hl, h0, h1, by simp [h.len], by simpa using h.room, fun y hy hyl => ?_, fun y hy hyl => h.most y hy (by simpa using hyl)⟩
  simp at hyl
  rw [← h.count y hy hyl, hp.count_eq, List.count_cons]
  by_cases hc : x = (y : Int)
  · have e : x.toNat = y := by omega
    rw [e]
    have : (tk.set y (tk.getD y 0 + 1)).getD y 0 = tk.getD y 0 + 1 := by
      simp only [List.getD, List.getElem?_set, if_true]; rw [if_pos (by omega)]; rfl
    rw [this]; simp [hc]; omega
  · have : (tk.set x.toNat (tk.getD x.toNat 0 + 1)).getD y 0 = tk.getD y 0 := by
      simp only [List.getD, List.getElem?_set]; rw [if_neg (by omega)]
    rw [this]; simp [hc]
/-- The one that pushes and pops takes a word; then one that steals does. -/
theorem Ac.own (h : Ac tk pu v last Q H) {x : Int} {Q' : List Int} (e : Q ++ H = Q' ++ [x]) (hs : Q'.Sublist Q) : Ac (tk.set x.toNat (tk.getD x.toNat 0 + 1)) pu v last Q' [] :=
  h.took (by rw [e]; simp) hs (fun q hq => h.late q (hs.subset hq)) h.zero h.low
theorem Ac.steal (h : Ac tk pu v last Q H) {x : Int} {Q' : List Int} (e : Q = x :: Q') : Ac (tk.set x.toNat (tk.getD x.toNat 0 + 1)) pu v x Q' H ∧ last < x := by
  subst e
  have hx := h.range x (by simp)
  exact ⟨h.took (by simp) (List.sublist_cons_self _ _) (fun q hq => (List.pairwise_cons.1 h.sorted).1 q hq) (by omega) (by omega), h.late x (by simp)⟩
theorem Ac.end (h : Ac tk pu v last [] []) (y : Nat) (hy : 1 ≤ y) (hl : y < tk.length) : tk.getD y 0 = if pu.getD y false = true then 1 else 0 := by
  have := h.count y hy hl
  simpa using this
theorem Ac.start (k : Nat) : Ac (List.replicate (k + 2) 0) (List.replicate (k + 2) false) 0 0 [] [] := by
  refine ⟨by simp, .nil, by simp, by omega, by omega, by simp, by simp; omega, fun y hy hl => ?_, fun y hy hl => ?_⟩ <;> simp at hl <;> simp [List.getD, hl]
end

/-! A machine that runs alone. -/
def runs : Nat → List Int → Mc → List Int × Mc
  | 0, L, m => (L, m)
  | k + 1, L, m => runs k (stp L m).1 (stp L m).2
theorem runs_done {L : List Int} {m : Mc} (h : m.pc = 0) (k : Nat) : runs k L m = (L, m) := by
  have e : stp L m = (L, m) := by simp [stp, h]
  induction k with
  | zero => rfl
  | succ k ih => simp only [runs, e]; exact ih

/-- What comes of one that runs alone to its end: a push (w), or a pop. -/
inductive AloneEv (n : Nat) (w : Int) (k : Nat) (m' : Mc) (R Q' : List Int) : Prop
  | pushed (hk : k = 1) (ho : m'.out = 1) (h3 : Q' = R ++ [w]) (h4 : R.length < n)
  | full (hk : k = 1) (ho : m'.out = 2) (h3 : Q' = R) (h4 : n ≤ R.length)
  | took (hk : k = 2) (ho : m'.out = 1) (h3 : R = Q' ++ [m'.w])
  | none (hk : k = 2) (ho : m'.out = 3) (h3 : Q' = R) (h4 : R = []) (h5 : m'.w = 0)

theorem alone_any {n : Nat} {w : Int} (k : Nat) : ∀ {L : List Int} {T β g bc : Int} {Q : List Int} {m : Mc}, Dq n L T β bc Q → Ph n L T β Q w g bc m → m.pc ≠ 0 → β < 1000 → left m ≤ k →
    (m.kind = 1 → hand m = []) →
    ∃ T' β' Q', Dq n (runs k L m).1 T' β' β' Q' ∧ (runs k L m).2.pc = 0 ∧ (runs k L m).2.e = en n ∧ β' ≤ β + 1 ∧ AloneEv n w m.kind (runs k L m).2 (Q ++ hand m) Q' := by
  induction k with
  | zero => 
    intro L T β g bc Q m D P hp hs hk
    have := own_left (L := L) P hp; omega
  | succ k ih =>
    intro L T β g bc Q m D P hp hs hk hh
    have hl := own_left (L := L) P hp
    obtain ⟨T', β', g', bc', Q', D', P', h1, h2, h3, h4, ev⟩ := own_step D P hp hs
    simp only [runs]
    by_cases hp' : (stp L m).2.pc = 0
    · rw [runs_done hp']
      have hidle : bc' = β' ∧ (stp L m).2.e = en n := by
        generalize (stp L m).2 = m2 at P' hp'
        cases P' <;> simp_all
      refine ⟨T', β', Q', by rw [← hidle.1]; exact hidle.1 ▸ D', hp', hidle.2, h3, ?_⟩
      cases ev with
      | on h => exact absurd hp' h
      | pushed h hk ho h1 h2 h3 h4 => exact .pushed hk ho (by rw [h1]; simpa using h3) (by rw [h1]; simpa using h4)
      | full h hk ho h1 h2 h3 h4 => exact .full hk ho (by rw [h1]; simpa using h3) (by rw [h1]; simpa using h4)
      | took h hk ho h2 h3 hs => exact .took hk ho h3
      | none h hk ho h1 h2 h3 h4 h5 => exact .none hk ho (by rw [h1]; simpa using h3) (by rw [h1]; simpa using h4) h5
    · have hb := h4 hp'
      have hev : (stp L m).2.kind = m.kind ∧ Q ++ hand m = Q' ++ hand (stp L m).2 := by
        cases ev with
        | on h hk h2 hs => exact ⟨hk, h2⟩
        | pushed h => exact absurd h hp'
        | full h => exact absurd h hp'
        | took h => exact absurd h hp'
        | none h => exact absurd h hp'
      obtain ⟨T2, β2, Q2, D2, p2, e2, b2, ev2⟩ := ih D' P' hp' (by omega) (by omega) (fun hk1 => by simp [hand, hk1])
      exact ⟨T2, β2, Q2, D2, p2, e2, by omega, by rw [← hev.1, hev.2]; exact ev2⟩
end Go.Proofs.Ytjnenpflpckimaa
