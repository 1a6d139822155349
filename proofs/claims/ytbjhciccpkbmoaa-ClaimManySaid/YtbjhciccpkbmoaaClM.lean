/- A machine that tries to mark: its block, and each of its steps; walked. -/
import Derived.Test.YtbjhciccpkbmoaaUf
import Derived.Test.YtbjhciccpkbmoaaAdd
import Derived.Test.YtbjhciccpkbmoaaClPure
import Derived.BigQuiet
import Derived.Laws.EntriesVeiled
import Derived.Handy
import Derived.Lib.SliceRun
namespace Go.Proofs.Ytbjhciccpkbmoaa
open Go.RowKit
set_option linter.unusedVariables false
set_option linter.unusedSimpArgs false

abbrev fnc (n X : Nat) : Value := .func (.func n) #[ptr X] #[]
/-- The method that is next. -/
def nxV (X : Nat) : Nat → Value
  | 1 => fnc 49 X
  | 2 => fnc 68 X
  | 3 => fnc 78 X
  | 4 => fnc 80 X
  | _ => .nilFunc
/-- A machine's block. -/
def Cb (w : World) (X : Nat) (wk p cy : Int) (nx : Value) (k : Int) (won : Bool) : Prop :=
  w.heap[X]? = some (.cells #[.int .i64 wk, .int .i64 p, .int .u64 cy, nx, .int .u64 k, .bool won] 89 (0, 0))
section
variable {w w' : World} {X : Nat} {wk p cy k : Int} {nx : Value} {won : Bool}
theorem Cb.lt (h : Cb w X wk p cy nx k won) : X < w.heap.size := (Array.getElem?_eq_some_iff.1 h).1
theorem Cb.f (h : Cb w X wk p cy nx k won) (j : Nat) : w.frozen? ⟨X, j, none⟩ = false := frozen_of_row w X j _ _ h
theorem Cb.c0 (h : Cb w X wk p cy nx k won) : w.cell? ⟨X, 0, none⟩ = some (.int .i64 wk) := by have := h; unfold Cb at this; simp [World.cell?, this]
theorem Cb.c1 (h : Cb w X wk p cy nx k won) : w.cell? ⟨X, 1, none⟩ = some (.int .i64 p) := by have := h; unfold Cb at this; simp [World.cell?, this]
theorem Cb.c2 (h : Cb w X wk p cy nx k won) : w.cell? ⟨X, 2, none⟩ = some (.int .u64 cy) := by have := h; unfold Cb at this; simp [World.cell?, this]
theorem Cb.c3 (h : Cb w X wk p cy nx k won) : w.cell? ⟨X, 3, none⟩ = some nx := by have := h; unfold Cb at this; simp [World.cell?, this]
theorem Cb.c4 (h : Cb w X wk p cy nx k won) : w.cell? ⟨X, 4, none⟩ = some (.int .u64 k) := by have := h; unfold Cb at this; simp [World.cell?, this]
theorem Cb.c5 (h : Cb w X wk p cy nx k won) : w.cell? ⟨X, 5, none⟩ = some (.bool won) := by have := h; unfold Cb at this; simp [World.cell?, this]
theorem Cb.put (h : Cb w X wk p cy nx k won) (i : Nat) (y : Value) {wk' p' cy' k' : Int} {nx' : Value} {won' : Bool}
    (hh : (#[.int .i64 wk, .int .i64 p, .int .u64 cy, nx, .int .u64 k, .bool won] : Array Value).setIfInBounds i y = #[.int .i64 wk', .int .i64 p', .int .u64 cy', nx', .int .u64 k', .bool won']) :
    Cb (w.setCell ⟨X, i, none⟩ y) X wk' p' cy' nx' k' won' := by
  unfold Cb
  rw [heap_setCell_same w X i _ 89 _ h, hh]
end
/-- A machine and a store, apart; what changed since. -/
structure Cs (w0 w : World) (X S D : Nat) (wk p cy : Int) (nx : Value) (k : Int) (won : Bool) (L : List Int) (cc : Int) : Prop where
  mem : Cb w X wk p cy nx k won
  st : St w S D L cc
  n : X ≠ S ∧ X ≠ D
  u : UF (fun b => b = X ∨ b = S ∨ b = D) w0 w
section
variable {w0 w w' : World} {X S D : Nat} {wk p cy k : Int} {nx : Value} {won : Bool} {L : List Int} {cc : Int}
theorem Cs.step (h : Cs w0 w X S D wk p cy nx k won L cc) (kb : Below w.heap.size w w') : Cs w0 w' X S D wk p cy nx k won L cc :=
  ⟨(kb.block X h.mem.lt).trans h.mem, h.st.below kb, h.n, h.u.trans (.of_below (F := fun _ => False) kb) (fun _ x => x) (fun _ _ x => x.elim)⟩
theorem Cs.drew (h : Cs w0 w X S D wk p cy nx k won L cc) : Cs w0 w.drew X S D wk p cy nx k won L cc := h.step (Below.refl _ _).drew
theorem Cs.left (h : Cs w0 w X S D wk p cy nx k won L cc) {L' : List Int} {c' : Int} (kb : Left S D L' c' w w') : Cs w0 w' X S D wk p cy nx k won L' c' :=
  ⟨(kb.2.block X h.mem.lt h.n.1 h.n.2).trans h.mem, kb.1, h.n, h.u.trans (.of_upd kb.2) (fun _ x => x) (fun _ _ x => .inr x)⟩
theorem Cs.put (h : Cs w0 w X S D wk p cy nx k won L cc) (i : Nat) (y : Value) {wk' p' cy' k' : Int} {nx' : Value} {won' : Bool}
    (hh : (#[.int .i64 wk, .int .i64 p, .int .u64 cy, nx, .int .u64 k, .bool won] : Array Value).setIfInBounds i y = #[.int .i64 wk', .int .i64 p', .int .u64 cy', nx', .int .u64 k', .bool won']) :
    Cs w0 (w.setCell ⟨X, i, none⟩ y) X S D wk' p' cy' nx' k' won' L cc :=
  ⟨h.mem.put i y hh, St_same h.st (heap_setCell_other w ⟨X, i, none⟩ S y (Ne.symm h.n.1)) (heap_setCell_other w ⟨X, i, none⟩ D y (Ne.symm h.n.2)), h.n, h.u.trans (UF.set w X i y) (fun _ x => x) (fun _ _ e => .inl e)⟩
theorem Cs.p3 (h : Cs w0 w X S D wk p cy nx k won L cc) (y : Value) : Cs w0 (w.setCell ⟨X, 3, none⟩ y) X S D wk p cy y k won L cc := h.put 3 _ rfl
theorem Cs.p4 (h : Cs w0 w X S D wk p cy nx k won L cc) (y : Int) : Cs w0 (w.setCell ⟨X, 4, none⟩ (.int .u64 y)) X S D wk p cy nx y won L cc := h.put 4 _ rfl
theorem Cs.p5 (h : Cs w0 w X S D wk p cy nx k won L cc) (y : Bool) : Cs w0 (w.setCell ⟨X, 5, none⟩ (.bool y)) X S D wk p cy nx k y L cc := h.put 5 _ rfl
/-- The cells that are read. -/
abbrev Cc (w : World) (X : Nat) (wk p cy k : Int) : Prop := w.cell? ⟨X, 0, none⟩ = some (.int .i64 wk) ∧ w.cell? ⟨X, 1, none⟩ = some (.int .i64 p) ∧ w.cell? ⟨X, 2, none⟩ = some (.int .u64 cy) ∧ w.cell? ⟨X, 4, none⟩ = some (.int .u64 k)
theorem Cs.rd (h : Cs w0 w X S D wk p cy nx k won L cc) : Cc w X wk p cy k := ⟨h.mem.c0, h.mem.c1, h.mem.c2, h.mem.c4⟩

set_option maxHeartbeats 1000000 in
theorem finish_any (won' : Bool) (w : World) (h : Cs w0 w X S D wk p cy nx k won L cc) :
    Calls Try.prog 67 #[ptr X, .bool won'] w fun e w' => e = .returned (.tuple #[]) ∧ Cs w0 w' X S D wk p cy .nilFunc k won' L cc := by
  have h1 := h.p3 .nilFunc
  have q3 := h.mem.c3; have f3 := h.mem.f 3
  have q5 := h1.mem.c5; have f5 := h1.mem.f 5
  have H2 := Lib.hid (h1.p5 won')
  clear h h1
  go_enter Try.func67, Try.ntmps67
  go_wp2
  go_returns
  exact ⟨rfl, H2.out⟩

set_option maxHeartbeats 2000000 in
theorem seeMark_any (w : World) (h : Cs w0 w X S D wk p cy nx k won L cc) (h0 : 0 ≤ cc) (h1 : cc ≤ 1000000000) :
    Calls Try.prog 49 #[ptr X, ptr S] w fun e w' => e = .returned (.tuple #[]) ∧ Cs w0 w' X S D wk p cy (if cy ≤ ldv L p then .nilFunc else fnc 68 X) (ldv L p) (if cy ≤ ldv L p then false else won) L (cc + 1) := by
  have hmf : ∀ (fn : Fn) (first cap : Array Value) (w : World), (Instr.makeFunc fn first cap).run Try.prog w = .ok (.func fn first cap) w := fun _ _ _ _ => rfl
  have H := Lib.hid h
  have q1 := h.mem.c1
  clear h
  obtain ⟨z, hz⟩ : ∃ z, z = ldv L p := ⟨_, rfl⟩
  rw [← hz]
  have HZ := Lib.hid hz
  clear hz
  by_cases hc : cy ≤ z
  · have d : decide (z ≥ cy) = true := by simpa using hc
    simp only [if_pos hc]
    go_enter Try.func49, Try.ntmps49
    go_wp2_with (first
      | (go_at_call 26; (with_reducible refine (load_any _ _ H.out.st h0 h1).mono ?_); rintro r w1 ⟨rfl, hk⟩; rw [← HZ.out]; have q4 := (H.out.left hk).mem.c4; have f4 := (H.out.left hk).mem.f 4; have H1 := Lib.hid ((H.out.left hk).p4 z); clear hk)
      | fail)
    obtain ⟨r0, r1, r2, r4⟩ := H1.out.rd
    go_quiet (fail)
    have H2 := Lib.hid (H1.out.step (below_drewN (Below.refl _ _) nq))
    go_wp2_with (first
      | (go_at_call 67; (with_reducible refine (finish_any false _ H2.out).mono ?_); rintro r w3 ⟨rfl, hk⟩; have H3 := Lib.hid hk; clear hk)
      | fail)
    go_returns
    exact ⟨rfl, H3.out⟩
  · have d : decide (z ≥ cy) = false := by simpa using hc
    simp only [if_neg hc]
    go_enter Try.func49, Try.ntmps49
    go_wp2_with (first
      | (go_at_call 26; (with_reducible refine (load_any _ _ H.out.st h0 h1).mono ?_); rintro r w1 ⟨rfl, hk⟩; rw [← HZ.out]; have q4 := (H.out.left hk).mem.c4; have f4 := (H.out.left hk).mem.f 4; have H1 := Lib.hid ((H.out.left hk).p4 z); clear hk)
      | fail)
    obtain ⟨r0, r1, r2, r4⟩ := H1.out.rd
    go_quiet (fail)
    have H2 := Lib.hid (H1.out.step (below_drewN (Below.refl _ _) nq))
    have r3 := H2.out.mem.c3; have f3 := H2.out.mem.f 3
    have H3 := Lib.hid (H2.out.p3 (fnc 68 X))
    go_wp2
    go_returns
    exact ⟨rfl, H3.out⟩

set_option maxHeartbeats 2000000 in
theorem countTask_any (w : World) (h : Cs w0 w X S D wk p cy nx k won L cc) (h0 : 0 ≤ cc) (h1 : cc ≤ 1000000000) :
    Calls Try.prog 68 #[ptr X, ptr S] w fun e w' => e = .returned (.tuple #[]) ∧ Cs w0 w' X S D wk p cy (fnc 78 X) k won (adv L wk 1) (cc + 1) := by
  have hmf : ∀ (fn : Fn) (first cap : Array Value) (w : World), (Instr.makeFunc fn first cap).run Try.prog w = .ok (.func fn first cap) w := fun _ _ _ _ => rfl
  have H := Lib.hid h
  have q0 := h.mem.c0
  clear h
  go_enter Try.func68, Try.ntmps68
  go_wp2_with (first
    | (go_at_call 77; (with_reducible refine (add_any _ _ _ H.out.st h0 h1).mono ?_); rintro r w1 ⟨rfl, hk⟩; have H1 := Lib.hid (H.out.left hk); clear hk; have q3 := H1.out.mem.c3; have f3 := H1.out.mem.f 3; have H2 := Lib.hid (H1.out.p3 (fnc 78 X)))
    | fail)
  go_returns
  exact ⟨rfl, H2.out⟩

set_option maxHeartbeats 2000000 in
theorem countBack_any (w : World) (h : Cs w0 w X S D wk p cy nx k won L cc) (h0 : 0 ≤ cc) (h1 : cc ≤ 1000000000) :
    Calls Try.prog 80 #[ptr X, ptr S] w fun e w' => e = .returned (.tuple #[]) ∧ Cs w0 w' X S D wk p cy .nilFunc k false (adv L wk 18446744073709551615) (cc + 1) := by
  have H := Lib.hid h
  have q0 := h.mem.c0
  clear h
  go_enter Try.func80, Try.ntmps80
  go_wp2_with (first
    | (go_at_call 77; (with_reducible refine (add_any _ _ _ H.out.st h0 h1).mono ?_); rintro r w1 ⟨rfl, hk⟩; have H1 := Lib.hid (H.out.left hk); clear hk)
    | (go_at_call 67; (with_reducible refine (finish_any false _ H1.out).mono ?_); rintro r w3 ⟨rfl, hk⟩; have H3 := Lib.hid hk; clear hk)
    | fail)
  go_returns
  exact ⟨rfl, H3.out⟩

set_option maxHeartbeats 4000000 in
theorem mark_any (w : World) (h : Cs w0 w X S D wk p cy nx k won L cc) (h0 : 0 ≤ cc) (h1 : cc ≤ 1000000000) :
    Calls Try.prog 78 #[ptr X, ptr S] w fun e w' => e = .returned (.tuple #[]) ∧ Cs w0 w' X S D wk p cy (if swB L p k = true then .nilFunc else fnc 80 X) k (if swB L p k = true then true else won) (swv L p k cy) (cc + 1) := by
  have hmf : ∀ (fn : Fn) (first cap : Array Value) (w : World), (Instr.makeFunc fn first cap).run Try.prog w = .ok (.func fn first cap) w := fun _ _ _ _ => rfl
  obtain ⟨L', hL⟩ : ∃ L', L' = swv L p k cy := ⟨_, rfl⟩
  obtain ⟨b, hb⟩ : ∃ b, b = swB L p k := ⟨_, rfl⟩
  rw [← hL, ← hb]
  have hsw : Calls Try.prog 79 #[ptr S, .int .i64 p, .int .u64 k, .int .u64 cy] w fun e w' => e = .returned (.bool b) ∧ Left S D L' (cc + 1) w w' := by
    rw [hL, hb]; exact swap_any p k cy w h.st h0 h1
  have HSW : Hid (∀ w1, Cs w0 w1 X S D wk p cy nx k won L cc → Calls Try.prog 79 #[ptr S, .int .i64 p, .int .u64 k, .int .u64 cy] w1 fun e w' => e = .returned (.bool b) ∧ Left S D L' (cc + 1) w1 w') := Lib.hid (fun w1 h' => by
    rw [hL, hb]; exact swap_any p k cy w1 h'.st h0 h1)
  have HD := Lib.hid h.drew
  obtain ⟨q0, q1, q2, q4⟩ := h.rd
  clear h hL hb hsw
  cases b
  all_goals
    go_enter Try.func78, Try.ntmps78
    go_wp2
    go_region_held3 (fun w' => Cc w' X wk p cy k)
      (first | exact H1.out.rd | exact HD.out.rd | go_keep)
      (first
        | (go_at_call 79; (with_reducible refine (HSW.out _ HD.out).mono ?_); rintro r w1 ⟨rfl, hk⟩; have H1 := Lib.hid (HD.out.left hk); clear hk)
        | fail)
  · have r3 := H1.out.mem.c3; have f3 := H1.out.mem.f 3
    have H3 := Lib.hid (H1.out.p3 (fnc 80 X))
    go_wp2
    go_returns
    exact ⟨rfl, H3.out⟩
  · go_wp2_with (first
      | (go_at_call 67; (with_reducible refine (finish_any true _ H1.out).mono ?_); rintro r w3 ⟨rfl, hk⟩; have H3 := Lib.hid hk; clear hk)
      | fail)
    go_returns
    exact ⟨rfl, H3.out⟩
end
end Go.Proofs.Ytbjhciccpkbmoaa
