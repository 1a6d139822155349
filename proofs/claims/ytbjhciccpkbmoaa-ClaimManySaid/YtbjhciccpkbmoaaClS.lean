/- A machine that tries to mark, told by its pure state: a step, and whether it won. -/
import Derived.Test.YtbjhciccpkbmoaaClN
namespace Go.Proofs.Ytbjhciccpkbmoaa
open Go.RowKit
set_option linter.unusedVariables false
set_option linter.unusedSimpArgs false

set_option maxRecDepth 100000
theorem ldv_eq (L : List Int) (p : Int) : ldv L p = ldc L p := by unfold ldv ldc inB; by_cases h : 0 ≤ p ∧ p < L.length <;> simp [h]
theorem ptv_eq (L : List Int) (p v : Int) : ptv L p v = ptc L p v := by unfold ptv ptc inB; by_cases h : 0 ≤ p ∧ p < L.length <;> simp [h]
theorem adv_eq (L : List Int) (p d : Int) : adv L p d = adc L p d := by unfold adv adc; rw [ptv_eq, ldv_eq, IntKind.wrap_u64]
theorem sw_yes {L : List Int} {p o v : Int} (h : (0 ≤ p ∧ p < L.length) ∧ L.getD p.toNat 0 = o) : swB L p o = true ∧ swv L p o v = ptc L p v := by
  have e : swB L p o = true := by
    have e1 : inB L p = true := by unfold inB; exact decide_eq_true h.1
    unfold swB; rw [e1, h.2]; simp
  refine ⟨e, ?_⟩
  unfold swv ptc; rw [if_pos e, if_pos h.1]
theorem sw_no {L : List Int} {p o v : Int} (h : ¬ ((0 ≤ p ∧ p < L.length) ∧ L.getD p.toNat 0 = o)) : swB L p o = false ∧ swv L p o v = L := by
  have e : swB L p o = false := by
    unfold swB inB
    by_cases h1 : 0 ≤ p ∧ p < L.length
    · have h2 : ¬ L.getD p.toNat 0 = o := fun h2 => h ⟨h1, h2⟩
      simp only [decide_eq_false h2, Bool.and_false]
    · simp only [decide_eq_false h1, Bool.false_and]
  refine ⟨e, ?_⟩
  unfold swv; rw [e]; simp

theorem eqin_fnc (d f M : Nat) (w : World) : (Op.equalIn (d + 1) 87 (fnc f M) .nilFunc).run Try.prog w = .ok false w := by
  simp [Op.equalIn, go_sem, Try.underlying87]
theorem eqin_nilc (d : Nat) (w : World) : (Op.equalIn (d + 1) 87 .nilFunc .nilFunc).run Try.prog w = .ok true w := by
  simp [Op.equalIn, go_sem, Try.underlying87]
@[go_sem] theorem eql_fnc (f M : Nat) (w : World) : (binOp .eql 87 (fnc f M) .nilFunc).run Try.prog w = .ok (.bool false) w := by
  have h : (Op.equal 87 (fnc f M) .nilFunc).run Try.prog w = .ok false w := eqin_fnc 9999 f M w
  simp only [binOp]
  simp [go_sem, h]
@[go_sem] theorem eql_nilc (w : World) : (binOp .eql 87 .nilFunc .nilFunc).run Try.prog w = .ok (.bool true) w := by
  have h : (Op.equal 87 .nilFunc .nilFunc).run Try.prog w = .ok true w := eqin_nilc 9999 w
  simp only [binOp]
  simp [go_sem, h]
set_option maxHeartbeats 1000000 in
theorem cstep_raw (w : World) (X S f : Nat) (c3 : w.cell? ⟨X, 3, none⟩ = some (fnc f X)) (hen : ∀ a w, (callFunc f a).run Try.prog w = .ok (.enter f a) w) (b : Bool) (Q : World → Prop)
    (HN : Calls Try.prog f #[ptr X, ptr S] w fun e w' => e = .returned (.tuple #[]) ∧ Q w') (hQ : ∀ w', Q w' → (b = true ∧ w'.cell? ⟨X, 3, none⟩ = some .nilFunc) ∨ (b = false ∧ ∃ f', w'.cell? ⟨X, 3, none⟩ = some (fnc f' X))) :
    Calls Try.prog 22 #[ptr X, ptr S] w fun e w' => e = .returned (.bool b) ∧ Q w' := by
  cases b
  · have HNN := Lib.hid HN; have HQ := Lib.hid hQ; clear HN hQ
    go_enter Try.func22, Try.ntmps22
    go_wp2_with (first
      | ((with_reducible refine HNN.out.mono ?_); rintro r w1 ⟨rfl, hk⟩; have HK := Lib.hid hk; obtain ⟨f', d4⟩ : ∃ f', w1.cell? ⟨X, 3, none⟩ = some (fnc f' X) := (by rcases HQ.out w1 hk with ⟨h, _⟩ | ⟨_, h⟩; cases h; exact h); clear hk)
      | fail)
    go_ret
    exact ⟨rfl, HK.out⟩
  · have HNN := Lib.hid HN; have HQ := Lib.hid hQ; clear HN hQ
    go_enter Try.func22, Try.ntmps22
    go_wp2_with (first
      | ((with_reducible refine HNN.out.mono ?_); rintro r w1 ⟨rfl, hk⟩; have HK := Lib.hid hk; have d4 : w1.cell? ⟨X, 3, none⟩ = some .nilFunc := (by rcases HQ.out w1 hk with ⟨_, h⟩ | ⟨h, _⟩; exact h; cases h); clear hk)
      | fail)
    go_ret
    exact ⟨rfl, HK.out⟩
set_option maxHeartbeats 1000000 in
theorem cstep_off (w : World) (X : Nat) (v : Value) (c3 : w.cell? ⟨X, 3, none⟩ = some .nilFunc) :
    Calls Try.prog 22 #[ptr X, v] w fun e w' => e = .returned (.bool true) ∧ w = w' := by
  go_enter Try.func22, Try.ntmps22
  go_wp2
  go_ret
  exact ⟨rfl, rfl⟩
set_option maxHeartbeats 1000000 in
theorem step_nilc (v : Value) (w : World) : Calls Try.prog 22 #[.pointer none, v] w fun e w' => e = .returned (.bool true) ∧ w = w' := by
  go_enter Try.func22, Try.ntmps22
  go_wp2
  go_ret
  exact ⟨rfl, rfl⟩
set_option maxHeartbeats 1000000 in
theorem won_nilc (w : World) : Calls Try.prog 24 #[.pointer none] w fun e w' => e = .returned (.bool false) ∧ w = w' := by
  go_enter Try.func24, Try.ntmps24
  go_wp2
  go_ret
  exact ⟨rfl, rfl⟩
set_option maxHeartbeats 1000000 in
theorem won_raw (w : World) (X : Nat) (b : Bool) (c5 : w.cell? ⟨X, 5, none⟩ = some (.bool b)) : Calls Try.prog 24 #[ptr X] w fun e w' => e = .returned (.bool b) ∧ w = w' := by
  go_enter Try.func24, Try.ntmps24
  go_wp2
  go_ret
  exact ⟨rfl, rfl⟩

/-- A machine, told by its pure state. -/
def CM (w : World) (X : Nat) (wk : Int) (m : Cm) : Prop := Cb w X wk m.p m.cy (nxV X m.pc) m.k m.won ∧ m.pc ≤ 4 ∧ (m.pc ≠ 0 → m.won = false)
def ccost (m : Cm) (cc : Int) : Int := if m.pc = 0 then cc else cc + 1
section
variable {w w' : World} {X S D : Nat} {wk : Int} {m : Cm} {L : List Int} {cc : Int}
theorem CM.lt (h : CM w X wk m) : X < w.heap.size := h.1.lt
theorem CM.keep (h : CM w X wk m) (k : w'.heap[X]? = w.heap[X]?) : CM w' X wk m := ⟨k.trans h.1, h.2⟩
theorem CM.below (h : CM w X wk m) (k : Below w.heap.size w w') : CM w' X wk m := h.keep (k.block X h.lt)
theorem CM.won (h : CM w X wk m) : Calls Try.prog 24 #[ptr X] w fun e w' => e = .returned (.bool m.won) ∧ w = w' := won_raw w X m.won h.1.c5
theorem CM.new {p cy : Int} (h : Nb w w' X wk p cy (fnc 49 X)) : CM w' X wk (cNew p cy) := ⟨h.1, by simp [cNew], fun _ => rfl⟩
/-- Behind a step. -/
def Bhd (w : World) (X S D : Nat) (wk : Int) (L : List Int) (cc : Int) (m : Cm) (w' : World) : Prop := CM w' X wk m ∧ St w' S D L cc ∧ UF (fun b => b = X ∨ b = S ∨ b = D) w w'
theorem Bhd.of {p cy k : Int} {nx : Value} {won : Bool} (h : Cs w w' X S D wk p cy nx k won L cc) (e1 : m.p = p) (e2 : m.cy = cy) (e3 : nxV X m.pc = nx) (e4 : m.k = k) (e5 : m.won = won) (e6 : m.pc ≤ 4) (e7 : m.pc ≠ 0 → m.won = false) : Bhd w X S D wk L cc m w' := by
  subst e1 e2 e3 e4 e5
  exact ⟨⟨h.mem, e6, e7⟩, h.st, h.u⟩
theorem Bhd.end (h : Bhd w X S D wk L cc m w') : (decide (m.pc = 0) = true ∧ w'.cell? ⟨X, 3, none⟩ = some .nilFunc) ∨ (decide (m.pc = 0) = false ∧ ∃ f', w'.cell? ⟨X, 3, none⟩ = some (fnc f' X)) := by
  obtain ⟨⟨h1, h2, _⟩, _⟩ := h
  have c3 := h1.c3
  have hp : m.pc = 0 ∨ m.pc = 1 ∨ m.pc = 2 ∨ m.pc = 3 ∨ m.pc = 4 := by omega
  rcases hp with e | e | e | e | e
  · left; rw [e] at c3 ⊢; exact ⟨rfl, c3⟩
  all_goals right; rw [e] at c3 ⊢; exact ⟨rfl, _, c3⟩
theorem cstep_any (w : World) (h : CM w X wk m) (hs : St w S D L cc) (n : X ≠ S ∧ X ≠ D) (h0 : 0 ≤ cc) (h1 : cc ≤ 1000000000) :
    Calls Try.prog 22 #[ptr X, ptr S] w fun e w' => e = .returned (.bool (decide ((cstp wk L m).2.pc = 0))) ∧ Bhd w X S D wk (cstp wk L m).1 (ccost m cc) (cstp wk L m).2 w' := by
  obtain ⟨hb, hp4, hw⟩ := h
  obtain ⟨pc, p, cy, k, won⟩ := m
  dsimp only at hb hp4 hw
  have hcs : ∀ {nx : Value}, Cb w X wk p cy nx k won → Cs w w X S D wk p cy nx k won L cc := fun h => ⟨h, hs, n, .refl _ _⟩
  have hp : pc = 0 ∨ pc = 1 ∨ pc = 2 ∨ pc = 3 ∨ pc = 4 := by omega
  rcases hp with rfl | rfl | rfl | rfl | rfl
  · have e : cstp wk L ⟨0, p, cy, k, won⟩ = (L, ⟨0, p, cy, k, won⟩) := by simp [cstp]
    rw [e]
    refine (cstep_off w X (ptr S) hb.c3).mono ?_
    rintro r w1 ⟨rfl, rfl⟩
    exact ⟨rfl, .of (hcs hb) rfl rfl rfl rfl rfl (by simp) hw⟩
  · have e : cstp wk L ⟨1, p, cy, k, won⟩ = (L, if cy ≤ ldc L p then ⟨0, p, cy, ldc L p, won⟩ else ⟨2, p, cy, ldc L p, won⟩) := by simp [cstp]
    have hwf := hw (by simp)
    rw [e]
    refine cstep_raw w X S 49 hb.c3 (fun _ _ => rfl) _ _ ((seeMark_any w (hcs hb) h0 h1).mono ?_) (fun w' h => h.end)
    rintro r w1 ⟨rfl, hk⟩
    rw [ldv_eq] at hk
    refine ⟨rfl, ?_⟩
    by_cases hc : cy ≤ ldc L p
    · rw [if_pos hc, if_pos hc] at hk; simp only [if_pos hc]
      exact .of hk rfl rfl rfl rfl hwf (by simp) (by simp)
    · rw [if_neg hc, if_neg hc] at hk; simp only [if_neg hc]
      exact .of hk rfl rfl rfl rfl rfl (by simp) (fun _ => hwf)
  · have e : cstp wk L ⟨2, p, cy, k, won⟩ = (adc L wk 1, ⟨3, p, cy, k, won⟩) := by simp [cstp]
    rw [e]
    refine cstep_raw w X S 68 hb.c3 (fun _ _ => rfl) _ _ ((countTask_any w (hcs hb) h0 h1).mono ?_) (fun w' h => h.end)
    rintro r w1 ⟨rfl, hk⟩
    rw [adv_eq] at hk
    exact ⟨rfl, .of hk rfl rfl rfl rfl rfl (by simp) (fun _ => hw (by simp))⟩
  · have hwf := hw (by simp)
    by_cases hc : (0 ≤ p ∧ p < L.length) ∧ L.getD p.toNat 0 = k
    · have e : cstp wk L ⟨3, p, cy, k, won⟩ = (ptc L p cy, ⟨0, p, cy, k, true⟩) := by
        simp only [cstp]; rw [if_neg (by decide), if_neg (by decide), if_pos trivial, if_pos hc]
      rw [e]
      refine cstep_raw w X S 78 hb.c3 (fun _ _ => rfl) _ _ ((mark_any w (hcs hb) h0 h1).mono ?_) (fun w' h => h.end)
      rintro r w1 ⟨rfl, hk⟩
      obtain ⟨e1, e2⟩ := sw_yes (v := cy) hc
      rw [e1, e2] at hk
      exact ⟨rfl, .of hk rfl rfl rfl rfl rfl (by simp) (by simp)⟩
    · have e : cstp wk L ⟨3, p, cy, k, won⟩ = (L, ⟨4, p, cy, k, won⟩) := by
        simp only [cstp]; rw [if_neg (by decide), if_neg (by decide), if_pos trivial, if_neg hc]
      rw [e]
      refine cstep_raw w X S 78 hb.c3 (fun _ _ => rfl) _ _ ((mark_any w (hcs hb) h0 h1).mono ?_) (fun w' h => h.end)
      rintro r w1 ⟨rfl, hk⟩
      obtain ⟨e1, e2⟩ := sw_no (v := cy) hc
      rw [e1, e2] at hk
      exact ⟨rfl, .of hk rfl rfl rfl rfl rfl (by simp) (fun _ => hwf)⟩
  · have e : cstp wk L ⟨4, p, cy, k, won⟩ = (adc L wk 18446744073709551615, ⟨0, p, cy, k, won⟩) := by simp [cstp]
    have hwf := hw (by simp)
    rw [e]
    refine cstep_raw w X S 80 hb.c3 (fun _ _ => rfl) _ _ ((countBack_any w (hcs hb) h0 h1).mono ?_) (fun w' h => h.end)
    rintro r w1 ⟨rfl, hk⟩
    rw [adv_eq] at hk
    exact ⟨rfl, .of hk rfl rfl rfl rfl hwf (by simp) (by simp)⟩
end
end Go.Proofs.Ytbjhciccpkbmoaa
