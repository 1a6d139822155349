/- Many machines that step one behind the other: when each is finished. -/
import Derived.Test.YtbjhciccpkbmoaaClPure
namespace Go.Proofs.Ytbjhciccpkbmoaa
set_option linter.unusedVariables false
set_option linter.unusedSimpArgs false

/-- From now (i) on up to the end (T) each machine has as many turns as it has steps left; turns in their order begin at pn. -/
def Due (k T pn i : Nat) (ms : List Cm) : Prop := ∀ (j : Nat) (m : Cm), ms[j]? = some m → cdue m = 0 ∨ ∃ s, i ≤ s ∧ pn ≤ s ∧ s % k = j ∧ s + (cdue m - 1) * k < T
theorem turn_of (pn k j : Nat) (h : j < k) : (pn + (j + (k - pn % k)) % k) % k = j := by
  have h1 : pn % k < k := Nat.mod_lt _ (by omega)
  have h2 := Nat.div_add_mod pn k
  rw [Nat.add_mod_mod]
  have e : pn + (j + (k - pn % k)) = j + k * (pn / k + 1) := by rw [Nat.mul_add, Nat.mul_one]; omega
  rw [e, Nat.add_mul_mod_self_left, Nat.mod_eq_of_lt h]
theorem Due.start {k pn i : Nat} {ms : List Cm} (hl : ms.length = k) (h4 : ∀ m ∈ ms, cdue m ≤ 4) (hi : i ≤ pn) : Due k (pn + 4 * k) pn i ms := fun j m hj => by
  have hjk : j < k := by have := (List.getElem?_eq_some_iff.1 hj).1; omega
  have hd := h4 m (List.mem_of_getElem? hj)
  have hm : (j + (k - pn % k)) % k < k := Nat.mod_lt _ (by omega)
  refine .inr ⟨_, ?_, ?_, turn_of pn k j hjk, ?_⟩
  · omega
  · omega
  · have : (cdue m - 1) * k ≤ 3 * k := Nat.mul_le_mul_right k (by omega)
    omega
theorem Due.step {k T pn i j : Nat} {ms : List Cm} {m m' : Cm} (hk0 : 0 < k) (h : Due k T pn i ms) (hj : ms[j]? = some m) (hc : i < pn ∨ j = i % k) (hd : cdue m' ≤ cdue m - 1) : Due k T pn (i + 1) (ms.set j m') := fun j0 m0 h0 => by
  have hjl := (List.getElem?_eq_some_iff.1 hj).1
  rw [List.getElem?_set] at h0
  by_cases e : j = j0
  · subst e
    rw [if_pos rfl, if_pos hjl] at h0
    cases h0
    by_cases hz : cdue m' = 0
    · exact .inl hz
    · rcases h j m hj with h1 | ⟨s, s1, s2, s3, s4⟩
      · omega
      · have hk : (cdue m' - 1) * k + k ≤ (cdue m - 1) * k := by
          have e1 : (cdue m' - 1) * k + k = cdue m' * k := by
            obtain ⟨a, ha⟩ : ∃ a, cdue m' = a + 1 := ⟨cdue m' - 1, by omega⟩
            rw [ha, Nat.add_sub_cancel, Nat.add_mul, Nat.one_mul]
          rw [e1]; exact Nat.mul_le_mul_right k hd
        right
        by_cases hs : s = i
        · subst hs
          rcases hc with hc | hc
          · omega
          · exact ⟨s + k, by omega, by omega, by rw [Nat.add_mod_right]; exact s3, by omega⟩
        · exact ⟨s, by omega, s2, s3, by omega⟩
  · rw [if_neg e] at h0
    rcases h j0 m0 h0 with h1 | ⟨s, s1, s2, s3, s4⟩
    · exact .inl h1
    · refine .inr ⟨s, ?_, s2, s3, s4⟩
      rcases hc with hc | hc
      · omega
      · by_cases hs : s = i
        · subst hs; omega
        · omega
theorem Due.end {k T pn : Nat} {ms : List Cm} (h : Due k T pn T ms) : ∀ m ∈ ms, cdue m = 0 := fun m hm => by
  obtain ⟨j, hj⟩ := List.getElem?_of_mem hm
  rcases h j m hj with h1 | ⟨s, s1, s2, s3, s4⟩
  · exact h1
  · omega
theorem sumf_take (f : Cm → Int) {l : List Cm} {i : Nat} {m : Cm} (h : l[i]? = some m) : sumf f (l.take (i + 1)) = sumf f (l.take i) + f m := by
  have e : l.take (i + 1) = l.take i ++ [m] := by rw [List.take_add_one, h]; rfl
  rw [e, sumf_app]
theorem sumf_same (f g : Cm → Int) : ∀ {l : List Cm}, (∀ m ∈ l, f m = g m) → sumf f l = sumf g l
  | [], _ => rfl
  | m :: l, h => by simp only [sumf]; rw [h m (by simp), sumf_same f g fun x hx => h x (by simp [hx])]
end Go.Proofs.Ytbjhciccpkbmoaa
