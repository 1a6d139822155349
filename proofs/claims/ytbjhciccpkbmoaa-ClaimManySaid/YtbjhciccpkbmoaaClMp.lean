/- Many that try to mark nodes: who wins, as rows of bools and numbers. -/
import Derived.Test.YtbjhciccpkbmoaaClDue
namespace Go.Proofs.Ytbjhciccpkbmoaa
set_option linter.unusedVariables false
set_option linter.unusedSimpArgs false

/-- Is a node tried by one of these, and was it not marked? -/
def wantB (ns : List Int) (L1 : List Int) (cy : Int) (v : Nat) : Bool := (ns.any fun x => decide (x % 4 + 1 = (v : Int))) && decide (L1.getD (79 + 5 * v) 0 < cy)
theorem want_nil (L1 : List Int) (cy : Int) (v : Nat) : wantB [] L1 cy v = false := by simp [wantB]
theorem want_step {ns L1 : List Int} {cy x : Int} {j vn : Nat} {B : List Bool} (h : ∀ v, 1 ≤ v → v ≤ 4 → B.getD v false = wantB (ns.take j) L1 cy v) (hx : ns[j]? = some x) (hv : x % 4 + 1 = (vn : Int)) (hl : B.length = 5) (h4 : vn ≤ 4) :
    ∀ v, 1 ≤ v → v ≤ 4 → (B.set vn (decide (L1.getD (79 + 5 * vn) 0 < cy))).getD v false = wantB (ns.take (j + 1)) L1 cy v := fun v v1 v4 => by
  have e : ns.take (j + 1) = ns.take j ++ [x] := by rw [List.take_add_one, hx]; rfl
  have hw : wantB (ns.take (j + 1)) L1 cy v = ((((ns.take j).any fun x => decide (x % 4 + 1 = (v : Int))) || decide (x % 4 + 1 = (v : Int))) && decide (L1.getD (79 + 5 * v) 0 < cy)) := by
    unfold wantB; rw [e, List.any_append]; simp
  rw [hw]
  by_cases hvv : v = vn
  · subst hvv
    have : (B.set v (decide (L1.getD (79 + 5 * v) 0 < cy))).getD v false = decide (L1.getD (79 + 5 * v) 0 < cy) := by
      simp only [List.getD, List.getElem?_set, if_true]; rw [if_pos (by omega)]; rfl
    rw [this]
    simp [hv]
  · have : (B.set vn (decide (L1.getD (79 + 5 * vn) 0 < cy))).getD v false = B.getD v false := by
      simp only [List.getD, List.getElem?_set]; rw [if_neg (Ne.symm hvv)]
    rw [this, h v v1 v4]
    have hne : ¬ (x % 4 + 1 = (v : Int)) := by omega
    unfold wantB
    simp [hne]
theorem sumf_add (f g : Cm → Int) : ∀ (l : List Cm), sumf (fun m => f m + g m) l = sumf f l + sumf g l
  | [] => rfl
  | m :: l => by
    have := sumf_add f g l
    simp only [sumf]; omega
abbrev marksP : List Int := [84, 89, 94, 99]
/-- How many won, by node, as a row. -/
theorem won_step {ms : List Cm} {W : List Int} {i vn : Nat} {m : Cm} (h : ∀ v : Nat, 1 ≤ v → v ≤ 4 → W.getD v 0 = sumf (wonAt (79 + 5 * (v : Int))) (ms.take i)) (hm : ms[i]? = some m) (hp : m.p = 79 + 5 * (vn : Int)) (hl : W.length = 5) (h4 : vn ≤ 4) (hw : m.won = true) :
    ∀ v : Nat, 1 ≤ v → v ≤ 4 → (W.set vn (W.getD vn 0 + 1)).getD v 0 = sumf (wonAt (79 + 5 * (v : Int))) (ms.take (i + 1)) := fun v v1 v4 => by
  rw [sumf_take _ hm]
  by_cases hv : v = vn
  · subst hv
    have : (W.set v (W.getD v 0 + 1)).getD v 0 = W.getD v 0 + 1 := by
      simp only [List.getD, List.getElem?_set, if_true]; rw [if_pos (by omega)]; rfl
    rw [this, h v v1 v4]
    simp [wonAt, hw, hp]
  · have : (W.set vn (W.getD vn 0 + 1)).getD v 0 = W.getD v 0 := by
      simp only [List.getD, List.getElem?_set]; rw [if_neg (Ne.symm hv)]
    rw [this, h v v1 v4]
    have : wonAt (79 + 5 * (v : Int)) m = 0 := by unfold wonAt; rw [if_neg (by rw [hp]; omega)]
    omega
theorem won_stay {ms : List Cm} {W : List Int} {i : Nat} {m : Cm} (h : ∀ v : Nat, 1 ≤ v → v ≤ 4 → W.getD v 0 = sumf (wonAt (79 + 5 * (v : Int))) (ms.take i)) (hm : ms[i]? = some m) (hw : m.won = false) :
    ∀ v : Nat, 1 ≤ v → v ≤ 4 → W.getD v 0 = sumf (wonAt (79 + 5 * (v : Int))) (ms.take (i + 1)) := fun v v1 v4 => by
  rw [sumf_take _ hm, h v v1 v4]
  simp [wonAt, hw]
/-- At the end of all. -/
theorem many_end {L1 L ns : List Int} {ms : List Cm} {fl : Int → Bool} {cy : Int} (H : CI marksP 1 cy (fun q => L1.getD q.toNat 0) 102 L ms fl) (hd : ∀ m ∈ ms, m.pc = 0) (hl : ms.length = ns.length) (hp : ∀ (j : Nat) (m : Cm), ms[j]? = some m → m.p = 84 + 5 * (ns.getD j 0 % 4)) :
    (∀ v : Nat, 1 ≤ v → v ≤ 4 → sumf (wonAt (79 + 5 * (v : Int))) ms = (if wantB ns L1 cy v = true then 1 else 0) ∧ ldc L (79 + 5 * (v : Int)) = if wantB ns L1 cy v = true then cy else L1.getD (79 + 5 * v) 0) ∧
    ldc L 1 = (if wantB ns L1 cy 1 = true then 1 else 0) + (if wantB ns L1 cy 2 = true then 1 else 0) + (if wantB ns L1 cy 3 = true then 1 else 0) + (if wantB ns L1 cy 4 = true then 1 else 0) := by
  have hlen := H.len
  have key : ∀ v : Nat, 1 ≤ v → v ≤ 4 → sumf (wonAt (79 + 5 * (v : Int))) ms = (if wantB ns L1 cy v = true then 1 else 0) ∧ ldc L (79 + 5 * (v : Int)) = if wantB ns L1 cy v = true then cy else L1.getD (79 + 5 * v) 0 := fun v v1 v4 => by
    have hP : (79 + 5 * (v : Int)) ∈ marksP := by
      have hv : v = 1 ∨ v = 2 ∨ v = 3 ∨ v = 4 := by omega
      rcases hv with rfl | rfl | rfl | rfl <;> simp
    have en : (79 + 5 * (v : Int)).toNat = 79 + 5 * v := by omega
    have eld : ldc L (79 + 5 * (v : Int)) = L.getD (79 + 5 * (v : Int)).toNat 0 := lc_in (by omega)
    rw [eld]
    by_cases hex : ∃ m ∈ ms, m.p = 79 + 5 * (v : Int)
    · obtain ⟨m, hm, hmp⟩ := hex
      obtain ⟨j, hj⟩ := List.getElem?_of_mem hm
      have hjl := (List.getElem?_eq_some_iff.1 hj).1
      have e := hp j m hj
      have hany : (ns.any fun x => decide (x % 4 + 1 = (v : Int))) = true := by
        refine List.any_eq_true.2 ⟨ns.getD j 0, ?_, decide_eq_true (by omega)⟩
        rw [List.getD, List.getElem?_eq_getElem (by omega)]; exact List.getElem_mem (by omega)
      have w : wantB ns L1 cy v = decide (L1.getD (79 + 5 * v) 0 < cy) := by unfold wantB; rw [hany]; simp
      have h := (H.end hd).1 m hm
      rw [hmp] at h
      simp only [en] at h ⊢
      rw [w]
      by_cases hc : L1.getD (79 + 5 * v) 0 < cy
      · rw [if_pos hc, if_pos hc] at h
        rw [if_pos (by simpa using hc), if_pos (by simpa using hc)]; exact h
      · rw [if_neg hc, if_neg hc] at h
        rw [if_neg (by simpa using hc), if_neg (by simpa using hc)]; exact h
    · have hno : ∀ m ∈ ms, m.p ≠ 79 + 5 * (v : Int) := fun m hm e => hex ⟨m, hm, e⟩
      have hany : (ns.any fun x => decide (x % 4 + 1 = (v : Int))) = false := by
        refine List.any_eq_false.2 fun x hx => ?_
        obtain ⟨j, hj⟩ := List.getElem?_of_mem hx
        have hjl := (List.getElem?_eq_some_iff.1 hj).1
        have hjm : j < ms.length := by omega
        have e := hp j _ (List.getElem?_eq_getElem hjm)
        have ne := hno _ (List.getElem_mem hjm)
        rw [e, List.getD, hj] at ne
        simp only [Option.getD_some] at ne
        simp only [decide_eq_true_eq]
        omega
      have w : wantB ns L1 cy v = false := by unfold wantB; rw [hany]; rfl
      have h := (H.end hd).2 _ hP hno
      simp only [en] at h ⊢
      rw [w]
      simpa using h
  refine ⟨key, ?_⟩
  have w := H.work_end hd
  have sm : sumf (fun m => if m.won = true then 1 else 0) ms = sumf (fun m => (wonAt 84 m + wonAt 89 m) + (wonAt 94 m + wonAt 99 m)) ms := sumf_same _ _ fun m hm => by
    have := (H.each m hm).1
    simp only [List.mem_cons, List.not_mem_nil, or_false] at this
    rcases this with e | e | e | e <;> simp [wonAt, e]
  rw [sm, sumf_add (fun m => wonAt 84 m + wonAt 89 m) (fun m => wonAt 94 m + wonAt 99 m), sumf_add (wonAt 84), sumf_add (wonAt 94)] at w
  have k1 := (key 1 (by omega) (by omega)).1
  have k2 := (key 2 (by omega) (by omega)).1
  have k3 := (key 3 (by omega) (by omega)).1
  have k4 := (key 4 (by omega) (by omega)).1
  have a1 : (79 + 5 * ((1 : Nat) : Int)) = 84 := by omega
  have a2 : (79 + 5 * ((2 : Nat) : Int)) = 89 := by omega
  have a3 : (79 + 5 * ((3 : Nat) : Int)) = 94 := by omega
  have a4 : (79 + 5 * ((4 : Nat) : Int)) = 99 := by omega
  rw [a1] at k1; rw [a2] at k2; rw [a3] at k3; rw [a4] at k4
  rw [lc_in (by omega), w, k1, k2, k3, k4]
  omega
end Go.Proofs.Ytbjhciccpkbmoaa
