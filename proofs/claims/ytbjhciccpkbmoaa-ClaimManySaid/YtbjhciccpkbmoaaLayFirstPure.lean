/- Words told by things: a list that has at each thing's place the thing's value; with nothing of the program. -/
import Derived.Test.YtbjhciccpkbmoaaLayPlc
namespace Go.Proofs.Ytbjhciccpkbmoaa.Lay
open Go.RowKit
set_option linter.unusedVariables false

theorem norm_k (k a : Int) (h6 : 6 ≤ k) (h18 : k ≤ 18) : Norm ⟨k, a, 0⟩ := ⟨by show 0 ≤ k; omega, by show k ≤ 18; omega, fun h => by have h2 : k ≤ 5 := h; omega, fun _ _ _ => rfl⟩
def isTh (u t : Th) : Prop := u.k = t.k ∧ u.a = t.a ∧ u.b = t.b
instance (u t : Th) : Decidable (isTh u t) := by unfold isTh; infer_instance
theorem isTh_eq {u t : Th} (h : isTh u t) : u = t := Th.ext' h.1 h.2.1 h.2.2

/-- The list has at each thing's place the thing's value. -/
def Rep (s : Sh) (L : List Int) (V : Th → Int) : Prop := L.length = lenL s ∧ ∀ t, Norm t → 0 ≤ plc s t → L.getD (plc s t).toNat 0 = V t
theorem plc_lt {s : Sh} {t : Th} (hn : Norm t) (h : 0 ≤ plc s t) : plc s t < lenL s := by
  rcases plc_spec s t hn with ⟨h1, _⟩ | ⟨i, hi, h1, _⟩
  · omega
  · rw [h1]; rw [things_len] at hi; omega
theorem plc_inj {s : Sh} {t u : Th} (ht : Norm t) (hu : Norm u) (h : 0 ≤ plc s t) (he : plc s u = plc s t) : u = t := by
  rcases plc_spec s t ht with ⟨h1, _⟩ | ⟨i, hi, h1, h2, _⟩
  · omega
  · rcases plc_spec s u hu with ⟨h3, _⟩ | ⟨j, hj, h3, h4, _⟩
    · omega
    · have : j = i := by omega
      subst this; rw [← h4, ← h2]
theorem Rep.zero (s : Sh) : Rep s (List.replicate (lenL s) 0) (fun _ => 0) :=
  ⟨by simp, fun t hn h => by have := plc_lt hn h; simp only [List.getD, List.getElem?_replicate]; split <;> rfl⟩
theorem Rep.congr {s : Sh} {L : List Int} {V V' : Th → Int} (h : Rep s L V) (hv : ∀ t, Norm t → V t = V' t) : Rep s L V' := ⟨h.1, fun t hn hp => by rw [h.2 t hn hp, hv t hn]⟩
/-- One word written. -/
theorem Rep.set {s : Sh} {L : List Int} {V V' : Th → Int} {t : Th} {x : Int} {H : Nat} (h : Rep s L V) (ht : Norm t) (hH : plc s t = (H : Int)) (hx : V' t = x) (hv : ∀ u, Norm u → u ≠ t → V' u = V u) : Rep s (L.set H x) V' := by
  have hp : 0 ≤ plc s t := by omega
  have hlt := plc_lt ht hp
  refine ⟨by simpa using h.1, fun u hu hup => ?_⟩
  by_cases e : u = t
  · subst e
    rw [show (plc s u).toNat = H by omega, hx]
    simp [List.getD, show H < L.length by rw [h.1]; omega]
  · have hne : (plc s u).toNat ≠ H := fun e2 => e (plc_inj ht hu hp (by omega))
    rw [hv u hu e, ← h.2 u hu hup]
    simp [List.getD, List.getElem?_set_ne hne.symm]

/-- What the words are once things from f to l are linked behind a head. -/
def stkV (V : Th → Int) (t : Th) (kd f l : Int) (u : Th) : Int :=
  if f ≤ l ∧ isTh u t then f else if u.k = kd ∧ f ≤ u.a ∧ u.a < l then u.a + 1 else V u
/-- The same, but linked to j alone. -/
def stkTo (V : Th → Int) (t : Th) (kd f j : Int) (u : Th) : Int :=
  if isTh u t then f else if u.k = kd ∧ f ≤ u.a ∧ u.a < j then u.a + 1 else V u

theorem stk_none {V : Th → Int} {t : Th} {kd f l : Int} (h : l < f) (u : Th) : V u = stkV V t kd f l u := by
  unfold stkV; rw [if_neg (by omega), if_neg (by omega)]
theorem stk_head {s : Sh} {L : List Int} {V : Th → Int} {t : Th} {kd f : Int} {H : Nat} (h : Rep s L V) (ht : Norm t) (hH : plc s t = (H : Int)) : Rep s (L.set H f) (stkTo V t kd f f) :=
  h.set ht hH (by unfold stkTo; rw [if_pos ⟨rfl, rfl, rfl⟩]) (fun u hu hne => by unfold stkTo; rw [if_neg (fun e => hne (isTh_eq e)), if_neg (by omega)])
theorem stk_step {s : Sh} {L : List Int} {V : Th → Int} {t : Th} {kd f j : Int} {q : Nat} (h : Rep s L (stkTo V t kd f j)) (hk : t.k ≠ kd) (hkd : kd = 12 ∨ kd = 17) (hfj : f ≤ j) (hq : plc s ⟨kd, j, 0⟩ = (q : Int)) : Rep s (L.set q (j + 1)) (stkTo V t kd f (j + 1)) := by
  have hn : Norm ⟨kd, j, 0⟩ := norm_k kd j (by omega) (by omega)
  refine h.set hn hq ?_ (fun u hu hne => ?_)
  · unfold stkTo; rw [if_neg (fun e => hk e.1.symm), if_pos ⟨rfl, hfj, by show j < j + 1; omega⟩]
  · unfold stkTo
    by_cases e : isTh u t
    · rw [if_pos e, if_pos e]
    · rw [if_neg e, if_neg e]
      by_cases e2 : u.k = kd ∧ f ≤ u.a ∧ u.a < j + 1
      · have hb : u.b = 0 := by have := hu.2.2.2; omega
        have hj : u.a ≠ j := fun e3 => hne (Th.ext' e2.1 e3 hb)
        rw [if_pos e2, if_pos (by omega)]
      · rw [if_neg e2, if_neg (by omega)]
theorem stk_done {V : Th → Int} {t : Th} {kd f l : Int} (h : f ≤ l) (u : Th) : stkTo V t kd f l u = stkV V t kd f l u := by
  by_cases e : isTh u t
  · simp [stkV, stkTo, e, h]
  · simp [stkV, stkTo, e]
end Go.Proofs.Ytbjhciccpkbmoaa.Lay
