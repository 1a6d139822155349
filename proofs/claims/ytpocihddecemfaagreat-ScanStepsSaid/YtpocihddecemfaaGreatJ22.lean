/-  -/
import Derived.Test.YtpocihddecemfaaGreatLayFirst
import Derived.Test.YtpocihddecemfaaGreatJ7
import Derived.Test.YtpocihddecemfaaGreatJ6
import Derived.Test.YtpocihddecemfaaGreatJ3
import Derived.BigQuiet
import Derived.Laws.EntriesVeiled
import Derived.Handy
import Derived.Lib.SliceRun
import Derived.Laws.StructEq
namespace Go.Proofs.YtpocihddecemfaaGreat.Lay
open Go.RowKit
set_option linter.unusedVariables false
def clsE (c : Cfg) (k : Int) : Int := imin (rF c k + rM c k) (nodesN c) - 1
theorem imin_le (x y : Int) : imin x y ≤ x ∧ imin x y ≤ y ∧ (imin x y = x ∨ imin x y = y) := by unfold imin; omega
theorem ite_c {p : Prop} {d1 d2 : Decidable p} {α : Type} (x y z : α) (h : y = z) : (@ite α p d1 x y) = (@ite α p d2 x z) := by
  subst h; by_cases hp : p <;> simp [hp]
theorem fv_head (c : Cfg) (k : Nat) (hk : k < 5) : firstV c ⟨7, (k : Int), 0⟩ = if rF c k ≤ clsE c k then rF c k else 0 := by
  match k, hk with
  | 0, _ => simp [firstV, stkV, VV, baseV, isTh, clsE]; exact ite_c _ _ _ rfl
  | 1, _ => simp [firstV, stkV, VV, baseV, isTh, clsE]; exact ite_c _ _ _ rfl
  | 2, _ => simp [firstV, stkV, VV, baseV, isTh, clsE]; exact ite_c _ _ _ rfl
  | 3, _ => simp [firstV, stkV, VV, baseV, isTh, clsE]; exact ite_c _ _ _ rfl
  | 4, _ => simp [firstV, stkV, VV, baseV, isTh, clsE]; exact ite_c _ _ _ rfl
theorem cls_five {c : Cfg} (h : OkC c) (k : Nat) (hk : k < 5) : 0 ≤ sumTo c k ∧ 0 ≤ rM c k ∧ rM c k ≤ 12 ∧ sumTo c k + rM c k ≤ nodesN c ∧ rF c k = 1 + sumTo c k ∧ sumTo c (k + 1) = sumTo c k + rM c k := by
  have a0 := h.a0; have b0 := h.b0; have c0 := h.c0; have d0 := h.d0; have e0 := h.e0
  have a1 := h.a1; have b1 := h.b1; have c1 := h.c1; have d1 := h.d1; have e1 := h.e1
  have hn : nodesN c = c.a + c.b + c.c + c.d + c.e := rfl
  match k, hk with
  | 0, _ => simp [sumTo, cnt, rM, rF]; omega
  | 1, _ => simp [sumTo, cnt, rM, rF]; omega
  | 2, _ => simp [sumTo, cnt, rM, rF]; omega
  | 3, _ => simp [sumTo, cnt, rM, rF]; omega
  | 4, _ => simp [sumTo, cnt, rM, rF]; omega
end Go.Proofs.YtpocihddecemfaaGreat.Lay

namespace Go.Proofs.YtpocihddecemfaaGreat
open Go.RowKit
set_option linter.unusedVariables false
open Lay (plcc plc shOf packN nodesN OkC Cfg Norm firstV Rep lenL)
def spK (c : Cfg) : Sk := ⟨plcc c 5 0 0, lnkL c⟩
def poK (c : Cfg) : Sk := ⟨plcc c 4 0 0, lnkL c⟩
def gOf (c : Cfg) : Pg := ⟨spK c, poK c, fun x j => plcc c 13 x j, fun x => plcc c 11 x 0⟩
theorem nrm (k a b : Int) (h6 : 0 ≤ k) (h18 : k ≤ 18) (ha : k ≤ 5 → a = 0) (hb : k ≠ 10 → k ≠ 13 → k ≠ 18 → b = 0) : Norm ⟨k, a, b⟩ := ⟨h6, h18, ha, hb⟩
end Go.Proofs.YtpocihddecemfaaGreat

namespace Go.Proofs.YtpocihddecemfaaGreat
open Lay (plcc Cfg)
def eOf (c : Cfg) (i : Int) : Dg.En := ⟨plcc c 8 i 0, plcc c 9 i 0, plcc c 10 i 0, c.dq⟩
end Go.Proofs.YtpocihddecemfaaGreat

namespace Go.Proofs.YtpocihddecemfaaGreat
open Go.RowKit
set_option linter.unusedVariables false
set_option linter.unusedSimpArgs false
abbrev fnc (n X : Nat) : Value := .func (.func n) #[ptr X] #[]
def nxV (X : Nat) : Nat → Value
  | 1 => fnc 130 X
  | 2 => fnc 141 X
  | 3 => fnc 148 X
  | 4 => fnc 156 X
  | _ => .nilFunc
def Cb (w : World) (X : Nat) (wk p cy : Int) (nx : Value) (k : Int) (won : Bool) : Prop :=
  w.heap[X]? = some (.cells #[.int .i64 wk, .int .i64 p, .int .u64 cy, nx, .int .u64 k, .bool won] 183 (0, 0))
section
variable {w w' : World} {X : Nat} {wk p cy k : Int} {nx : Value} {won : Bool}
theorem Cb.lt (h : Cb w X wk p cy nx k won) : X < w.heap.size := (Array.getElem?_eq_some_iff.1 h).1
theorem Cb.f (h : Cb w X wk p cy nx k won) (j : Nat) : w.frozen? ⟨X, j, none⟩ = false := frozen_of_row w X j _ _ h
theorem Cb.c0 (h : Cb w X wk p cy nx k won) : w.cell? ⟨X, 0, none⟩ = some (.int .i64 wk) := by have := h; unfold Cb at this; simp [World.cell?, this]
theorem Cb.c1 (h : Cb w X wk p cy nx k won) : w.cell? ⟨X, 1, none⟩ = some (.int .i64 p) := by have := h; unfold Cb at this; simp [World.cell?, this]
theorem Cb.c2 (h : Cb w X wk p cy nx k won) : w.cell? ⟨X, 2, none⟩ = some (.int .u64 cy) := by have := h; unfold Cb at this; simp [World.cell?, this]
theorem Cb.c3 (h : Cb w X wk p cy nx k won) : w.cell? ⟨X, 3, none⟩ = some nx := by have := h; unfold Cb at this; simp [World.cell?, this]
theorem Cb.c4 (h : Cb w X wk p cy nx k won) : w.cell? ⟨X, 4, none⟩ = some (.int .u64 k) := by have := h; unfold Cb at this; simp [World.cell?, this]
theorem Cb.c5 (h : Cb w X wk p cy nx k won) : w.cell? ⟨X, 5, none⟩ = some (.bool won) := by have := h; unfold Cb at this; simp [World.cell?, this]
theorem Cb.put (h : Cb w X wk p cy nx k won) (i : Nat) (y : Value) {wk' p' cy' k' : Int} {nx' : Value} {won' : Bool}
    (hh : (#[.int .i64 wk, .int .i64 p, .int .u64 cy, nx, .int .u64 k, .bool won] : Array Value).setIfInBounds i y = #[.int .i64 wk', .int .i64 p', .int .u64 cy', nx', .int .u64 k', .bool won']) :
    Cb (w.setCell ⟨X, i, none⟩ y) X wk' p' cy' nx' k' won' := by
  unfold Cb
  rw [heap_setCell_same w X i _ 183 _ h, hh]
end
structure Cs (w0 w : World) (X S D : Nat) (wk p cy : Int) (nx : Value) (k : Int) (won : Bool) (L : List Int) (cc : Int) : Prop where
  mem : Cb w X wk p cy nx k won
  st : St w S D L cc
  n : X ≠ S ∧ X ≠ D
  u : UF (fun b => b = X ∨ b = S ∨ b = D) w0 w
section
variable {w0 w w' : World} {X S D : Nat} {wk p cy k : Int} {nx : Value} {won : Bool} {L : List Int} {cc : Int}
theorem Cs.step (h : Cs w0 w X S D wk p cy nx k won L cc) (kb : Below w.heap.size w w') : Cs w0 w' X S D wk p cy nx k won L cc :=
  ⟨(kb.block X h.mem.lt).trans h.mem, h.st.below kb, h.n, h.u.trans (.of_below (F := fun _ => False) kb) (fun _ x => x) (fun _ _ x => x.elim)⟩
theorem Cs.drew (h : Cs w0 w X S D wk p cy nx k won L cc) : Cs w0 w.drew X S D wk p cy nx k won L cc := h.step (Below.refl _ _).drew
theorem Cs.left (h : Cs w0 w X S D wk p cy nx k won L cc) {L' : List Int} {c' : Int} (kb : Left S D L' c' w w') : Cs w0 w' X S D wk p cy nx k won L' c' :=
  ⟨(kb.2.block X h.mem.lt h.n.1 h.n.2).trans h.mem, kb.1, h.n, h.u.trans (.of_upd kb.2) (fun _ x => x) (fun _ _ x => .inr x)⟩
theorem Cs.put (h : Cs w0 w X S D wk p cy nx k won L cc) (i : Nat) (y : Value) {wk' p' cy' k' : Int} {nx' : Value} {won' : Bool}
    (hh : (#[.int .i64 wk, .int .i64 p, .int .u64 cy, nx, .int .u64 k, .bool won] : Array Value).setIfInBounds i y = #[.int .i64 wk', .int .i64 p', .int .u64 cy', nx', .int .u64 k', .bool won']) :
    Cs w0 (w.setCell ⟨X, i, none⟩ y) X S D wk' p' cy' nx' k' won' L cc :=
  ⟨h.mem.put i y hh, St_same h.st (heap_setCell_other w ⟨X, i, none⟩ S y (Ne.symm h.n.1)) (heap_setCell_other w ⟨X, i, none⟩ D y (Ne.symm h.n.2)), h.n, h.u.trans (UF.set w X i y) (fun _ x => x) (fun _ _ e => .inl e)⟩
theorem Cs.p3 (h : Cs w0 w X S D wk p cy nx k won L cc) (y : Value) : Cs w0 (w.setCell ⟨X, 3, none⟩ y) X S D wk p cy y k won L cc := h.put 3 _ rfl
theorem Cs.p4 (h : Cs w0 w X S D wk p cy nx k won L cc) (y : Int) : Cs w0 (w.setCell ⟨X, 4, none⟩ (.int .u64 y)) X S D wk p cy nx y won L cc := h.put 4 _ rfl
theorem Cs.p5 (h : Cs w0 w X S D wk p cy nx k won L cc) (y : Bool) : Cs w0 (w.setCell ⟨X, 5, none⟩ (.bool y)) X S D wk p cy nx k y L cc := h.put 5 _ rfl
abbrev Cc (w : World) (X : Nat) (wk p cy k : Int) : Prop := w.cell? ⟨X, 0, none⟩ = some (.int .i64 wk) ∧ w.cell? ⟨X, 1, none⟩ = some (.int .i64 p) ∧ w.cell? ⟨X, 2, none⟩ = some (.int .u64 cy) ∧ w.cell? ⟨X, 4, none⟩ = some (.int .u64 k)
theorem Cs.rd (h : Cs w0 w X S D wk p cy nx k won L cc) : Cc w X wk p cy k := ⟨h.mem.c0, h.mem.c1, h.mem.c2, h.mem.c4⟩
set_option maxHeartbeats 1000000 in
theorem finish_cl (won' : Bool) (w : World) (h : Cs w0 w X S D wk p cy nx k won L cc) :
    Calls Tryz.prog 140 #[ptr X, .bool won'] w fun e w' => e = .returned (.tuple #[]) ∧ Cs w0 w' X S D wk p cy .nilFunc k won' L cc := by
  have h1 := h.p3 .nilFunc
  have q3 := h.mem.c3; have f3 := h.mem.f 3
  have q5 := h1.mem.c5; have f5 := h1.mem.f 5
  have H2 := Lib.hid (h1.p5 won')
  clear h h1
  go_enter Tryz.func140, Tryz.ntmps140
  go_wp2
  go_returns
  exact ⟨rfl, H2.out⟩
set_option maxHeartbeats 2000000 in
theorem seeMark_any (w : World) (h : Cs w0 w X S D wk p cy nx k won L cc) (h0 : 0 ≤ cc) (h1 : cc ≤ 1000000000) :
    Calls Tryz.prog 130 #[ptr X, ptr S] w fun e w' => e = .returned (.tuple #[]) ∧ Cs w0 w' X S D wk p cy (if cy ≤ ldv L p then .nilFunc else fnc 141 X) (ldv L p) (if cy ≤ ldv L p then false else won) L (cc + 1) := by
  have hmf : ∀ (fn : Fn) (first cap : Array Value) (w : World), (Instr.makeFunc fn first cap).run Tryz.prog w = .ok (.func fn first cap) w := fun _ _ _ _ => rfl
  have H := Lib.hid h
  have q1 := h.mem.c1
  clear h
  obtain ⟨z, hz⟩ : ∃ z, z = ldv L p := ⟨_, rfl⟩
  rw [← hz]
  have HZ := Lib.hid hz
  clear hz
  by_cases hc : cy ≤ z
  · have d : decide (z ≥ cy) = true := by simpa using hc
    simp only [if_pos hc]
    go_enter Tryz.func130, Tryz.ntmps130
    go_wp2_with (first
      | (go_at_call 27; (with_reducible refine (load_any _ _ H.out.st h0 h1).mono ?_); rintro r w1 ⟨rfl, hk⟩; rw [← HZ.out]; have q4 := (H.out.left hk).mem.c4; have f4 := (H.out.left hk).mem.f 4; have H1 := Lib.hid ((H.out.left hk).p4 z); clear hk)
      | fail)
    obtain ⟨r0, r1, r2, r4⟩ := H1.out.rd
    go_quiet (fail)
    have H2 := Lib.hid (H1.out.step (below_drewN (Below.refl _ _) nq))
    go_wp2_with (first
      | (go_at_call 140; (with_reducible refine (finish_cl false _ H2.out).mono ?_); rintro r w3 ⟨rfl, hk⟩; have H3 := Lib.hid hk; clear hk)
      | fail)
    go_returns
    exact ⟨rfl, H3.out⟩
  · have d : decide (z ≥ cy) = false := by simpa using hc
    simp only [if_neg hc]
    go_enter Tryz.func130, Tryz.ntmps130
    go_wp2_with (first
      | (go_at_call 27; (with_reducible refine (load_any _ _ H.out.st h0 h1).mono ?_); rintro r w1 ⟨rfl, hk⟩; rw [← HZ.out]; have q4 := (H.out.left hk).mem.c4; have f4 := (H.out.left hk).mem.f 4; have H1 := Lib.hid ((H.out.left hk).p4 z); clear hk)
      | fail)
    obtain ⟨r0, r1, r2, r4⟩ := H1.out.rd
    go_quiet (fail)
    have H2 := Lib.hid (H1.out.step (below_drewN (Below.refl _ _) nq))
    have r3 := H2.out.mem.c3; have f3 := H2.out.mem.f 3
    have H3 := Lib.hid (H2.out.p3 (fnc 141 X))
    go_wp2
    go_returns
    exact ⟨rfl, H3.out⟩
set_option maxHeartbeats 2000000 in
theorem countTask_any (w : World) (h : Cs w0 w X S D wk p cy nx k won L cc) (h0 : 0 ≤ cc) (h1 : cc ≤ 1000000000) :
    Calls Tryz.prog 141 #[ptr X, ptr S] w fun e w' => e = .returned (.tuple #[]) ∧ Cs w0 w' X S D wk p cy (fnc 148 X) k won (adv L wk 1) (cc + 1) := by
  have hmf : ∀ (fn : Fn) (first cap : Array Value) (w : World), (Instr.makeFunc fn first cap).run Tryz.prog w = .ok (.func fn first cap) w := fun _ _ _ _ => rfl
  have H := Lib.hid h
  have q0 := h.mem.c0
  clear h
  go_enter Tryz.func141, Tryz.ntmps141
  go_wp2_with (first
    | (go_at_call 101; (with_reducible refine (add_any _ _ _ H.out.st h0 h1).mono ?_); rintro r w1 ⟨rfl, hk⟩; have H1 := Lib.hid (H.out.left hk); clear hk; have q3 := H1.out.mem.c3; have f3 := H1.out.mem.f 3; have H2 := Lib.hid (H1.out.p3 (fnc 148 X)))
    | fail)
  go_returns
  exact ⟨rfl, H2.out⟩
set_option maxHeartbeats 2000000 in
theorem countBack_any (w : World) (h : Cs w0 w X S D wk p cy nx k won L cc) (h0 : 0 ≤ cc) (h1 : cc ≤ 1000000000) :
    Calls Tryz.prog 156 #[ptr X, ptr S] w fun e w' => e = .returned (.tuple #[]) ∧ Cs w0 w' X S D wk p cy .nilFunc k false (adv L wk 18446744073709551615) (cc + 1) := by
  have H := Lib.hid h
  have q0 := h.mem.c0
  clear h
  go_enter Tryz.func156, Tryz.ntmps156
  go_wp2_with (first
    | (go_at_call 101; (with_reducible refine (add_any _ _ _ H.out.st h0 h1).mono ?_); rintro r w1 ⟨rfl, hk⟩; have H1 := Lib.hid (H.out.left hk); clear hk)
    | (go_at_call 140; (with_reducible refine (finish_cl false _ H1.out).mono ?_); rintro r w3 ⟨rfl, hk⟩; have H3 := Lib.hid hk; clear hk)
    | fail)
  go_returns
  exact ⟨rfl, H3.out⟩
set_option maxHeartbeats 4000000 in
theorem mark_any (w : World) (h : Cs w0 w X S D wk p cy nx k won L cc) (h0 : 0 ≤ cc) (h1 : cc ≤ 1000000000) :
    Calls Tryz.prog 148 #[ptr X, ptr S] w fun e w' => e = .returned (.tuple #[]) ∧ Cs w0 w' X S D wk p cy (if swB L p k = true then .nilFunc else fnc 156 X) k (if swB L p k = true then true else won) (swv L p k cy) (cc + 1) := by
  have hmf : ∀ (fn : Fn) (first cap : Array Value) (w : World), (Instr.makeFunc fn first cap).run Tryz.prog w = .ok (.func fn first cap) w := fun _ _ _ _ => rfl
  obtain ⟨L', hL⟩ : ∃ L', L' = swv L p k cy := ⟨_, rfl⟩
  obtain ⟨b, hb⟩ : ∃ b, b = swB L p k := ⟨_, rfl⟩
  rw [← hL, ← hb]
  have hsw : Calls Tryz.prog 155 #[ptr S, .int .i64 p, .int .u64 k, .int .u64 cy] w fun e w' => e = .returned (.bool b) ∧ Left S D L' (cc + 1) w w' := by
    rw [hL, hb]; exact swap_any p k cy w h.st h0 h1
  have HSW : Hid (∀ w1, Cs w0 w1 X S D wk p cy nx k won L cc → Calls Tryz.prog 155 #[ptr S, .int .i64 p, .int .u64 k, .int .u64 cy] w1 fun e w' => e = .returned (.bool b) ∧ Left S D L' (cc + 1) w1 w') := Lib.hid (fun w1 h' => by
    rw [hL, hb]; exact swap_any p k cy w1 h'.st h0 h1)
  have HD := Lib.hid h.drew
  obtain ⟨q0, q1, q2, q4⟩ := h.rd
  clear h hL hb hsw
  cases b
  all_goals
    go_enter Tryz.func148, Tryz.ntmps148
    go_wp2
    go_region_held3 (fun w' => Cc w' X wk p cy k)
      (first | exact H1.out.rd | exact HD.out.rd | go_keep)
      (first
        | (go_at_call 155; (with_reducible refine (HSW.out _ HD.out).mono ?_); rintro r w1 ⟨rfl, hk⟩; have H1 := Lib.hid (HD.out.left hk); clear hk)
        | fail)
  · have r3 := H1.out.mem.c3; have f3 := H1.out.mem.f 3
    have H3 := Lib.hid (H1.out.p3 (fnc 156 X))
    go_wp2
    go_returns
    exact ⟨rfl, H3.out⟩
  · go_wp2_with (first
      | (go_at_call 140; (with_reducible refine (finish_cl true _ H1.out).mono ?_); rintro r w3 ⟨rfl, hk⟩; have H3 := Lib.hid hk; clear hk)
      | fail)
    go_returns
    exact ⟨rfl, H3.out⟩
end
end Go.Proofs.YtpocihddecemfaaGreat

namespace Go.Proofs.YtpocihddecemfaaGreat
open Go.RowKit
set_option linter.unusedVariables false
set_option linter.unusedSimpArgs false
open Lay (plcc plc shOf OkC wordL kindOf)
set_option maxHeartbeats 1000000 in
theorem nowhere_any (w : World) : Calls Tryz.prog 129 #[] w fun e w' => e = .returned (.agg #[.int .i64 (-1), .int .i64 (-1)]) ∧ Below w.heap.size w w' := by
  go_enter Tryz.func129, Tryz.ntmps129
  go_wp2
  exact bodyPost_ret (v := .agg #[.int .i64 (-1), .int .i64 (-1)]) (by simp [results, Tryz.results129, go_sem]) rfl ⟨rfl, below_alloc0 (Below.refl _ _) _⟩
def Nb (w w' : World) (X : Nat) (wk p cy : Int) (nx : Value) : Prop := Cb w' X wk p cy nx 0 false ∧ w.heap.size ≤ X ∧ Below w.heap.size w w'
section
variable {w w' w2 : World} {X : Nat} {wk p cy : Int} {nx : Value}
theorem Nb.start {w0 : World} (hb : Below w.heap.size w w0) : Nb w (w0.alloc (.cells #[.int .i64 wk, .int .i64 p, .int .u64 cy, nx, .int .u64 0, .bool false] 183)) w0.heap.size wk p cy nx :=
  ⟨Go.heap_alloc_new _ _, hb.size, below_alloc0 hb _⟩
theorem Nb.step (h : Nb w w' X wk p cy nx) (hb : Below w'.heap.size w' w2) : Nb w w2 X wk p cy nx := ⟨(hb.block X h.1.lt).trans h.1, h.2.1, below_then h.2.2 hb⟩
theorem Nb.drew (h : Nb w w' X wk p cy nx) : Nb w w'.drew X wk p cy nx := h.step (Below.refl _ _).drew
theorem Nb.cc (h : Nb w w' X wk p cy nx) : w'.cell? ⟨X, 0, none⟩ = some (.int .i64 wk) ∧ w'.cell? ⟨X, 1, none⟩ = some (.int .i64 p) := ⟨h.1.c0, h.1.c1⟩
theorem Nb.p3 (h : Nb w w' X wk p cy nx) (y : Value) : Nb w (w'.setCell ⟨X, 3, none⟩ y) X wk p cy y := ⟨h.1.put 3 _ rfl, h.2.1, h.2.2.setCell h.2.1 _⟩
end
set_option maxHeartbeats 4000000 in
theorem newm_any {c : Lay.Cfg} (hc : OkC c) (N : Nat) (v cy : Int) (hv : (Lit.int .i64 v).wf = true) (w : World) (hm : Lay.IsMap w N c) :
    Calls Tryz.prog 117 #[Lay.mapP N, .int .i64 v, .int .u64 cy] w fun e w' => ∃ X, e = .returned (ptr X) ∧ Nb w w' X (plcc c 1 0 0) (plcc c 16 v 0) cy (fnc 130 X) := by
  have hmf : ∀ (fn : Fn) (first cap : Array Value) (w : World), (Instr.makeFunc fn first cap).run Tryz.prog w = .ok (.func fn first cap) w := fun _ _ _ _ => rfl
  have HC := Lib.hid hc; have HM := Lib.hid hm; have HV := Lib.hid hv
  have e1 : plcc c 1 0 0 = 1 := Lay.single_pos c 1 (by omega) (by omega)
  rw [e1]
  obtain ⟨p, hp⟩ : ∃ p, p = plcc c 16 v 0 := ⟨_, rfl⟩
  rw [← hp]
  have HP := Lib.hid hp
  clear hc hm hv e1 hp
  go_enter Tryz.func117, Tryz.ntmps117
  go_wp2_with (first
    | (go_at_call 30; (with_reducible refine (Lay.work_m HC.out N _ HM.out).mono ?_); rintro r w1 ⟨rfl, hb⟩; rw [show plcc c 1 0 0 = 1 from Lay.single_pos c 1 (by omega) (by omega)]; have HB1 := Lib.hid hb; have HM1 := Lib.hid (HM.out.below hb); clear hb)
    | (go_at_call 23; (with_reducible refine (Lay.mark_m HC.out N _ HV.out _ HM1.out).mono ?_); rintro r w2 ⟨rfl, hb⟩; rw [← HP.out]; have HNB := Lib.hid (Nb.start (wk := 1) (p := p) (cy := cy) (nx := .nilFunc) (below_then HB1.out hb)); clear hb)
    | fail)
  obtain ⟨X, hX⟩ : ∃ X, X = w2.heap.size := ⟨_, rfl⟩
  rw [← hX] at HNB ⊢
  obtain ⟨W, hW⟩ : ∃ W, W = w2.alloc (Obj.cells #[.int .i64 1, .int .i64 p, .int .u64 cy, .nilFunc, .int .u64 0, .bool false] 183) := ⟨_, rfl⟩
  rw [← hW] at HNB ⊢
  clear hX hW HB1
  have HND := Lib.hid HNB.out.drew
  obtain ⟨r0, r1⟩ := HNB.out.cc
  go_region_held3 (fun w' => w'.cell? ⟨X, 0, none⟩ = some (.int .i64 1) ∧ w'.cell? ⟨X, 1, none⟩ = some (.int .i64 p))
    (first | exact H1.out.cc | exact HND.out.cc | go_keep)
    (first
      | (go_at_call 129; (with_reducible refine (nowhere_any _).mono ?_); rintro r w3 ⟨rfl, hb⟩; have H1 := Lib.hid (HND.out.step hb); clear hb)
      | fail)
  have q3 := H1.out.1.c3; have f3 := H1.out.1.f 3
  have H2 := Lib.hid (H1.out.p3 (fnc 130 X))
  go_wp2
  go_ret
  exact ⟨_, rfl, H2.out⟩
end Go.Proofs.YtpocihddecemfaaGreat

namespace Go.Proofs.YtpocihddecemfaaGreat
open Go.RowKit
set_option linter.unusedVariables false
set_option linter.unusedSimpArgs false
set_option maxRecDepth 100000
theorem ldv_cl (L : List Int) (p : Int) : ldv L p = ldc L p := by unfold ldv ldc inB; by_cases h : 0 ≤ p ∧ p < L.length <;> simp [h]
theorem ptv_cl (L : List Int) (p v : Int) : ptv L p v = ptc L p v := by unfold ptv ptc inB; by_cases h : 0 ≤ p ∧ p < L.length <;> simp [h]
theorem adv_eq (L : List Int) (p d : Int) : adv L p d = adc L p d := by unfold adv adc; rw [ptv_cl, ldv_cl, IntKind.wrap_u64]
theorem sw_yes {L : List Int} {p o v : Int} (h : (0 ≤ p ∧ p < L.length) ∧ L.getD p.toNat 0 = o) : swB L p o = true ∧ swv L p o v = ptc L p v := by
  have e : swB L p o = true := by
    have e1 : inB L p = true := by unfold inB; exact decide_eq_true h.1
    unfold swB; rw [e1, h.2]; simp
  refine ⟨e, ?_⟩
  unfold swv ptc; rw [if_pos e, if_pos h.1]
theorem sw_no {L : List Int} {p o v : Int} (h : ¬ ((0 ≤ p ∧ p < L.length) ∧ L.getD p.toNat 0 = o)) : swB L p o = false ∧ swv L p o v = L := by
  have e : swB L p o = false := by
    unfold swB inB
    by_cases h1 : 0 ≤ p ∧ p < L.length
    · have h2 : ¬ L.getD p.toNat 0 = o := fun h2 => h ⟨h1, h2⟩
      simp only [decide_eq_false h2, Bool.and_false]
    · simp only [decide_eq_false h1, Bool.false_and]
  refine ⟨e, ?_⟩
  unfold swv; rw [e]; simp
theorem eqin_fnc (d f M : Nat) (w : World) : (Op.equalIn (d + 1) 106 (fnc f M) .nilFunc).run Tryz.prog w = .ok false w := by
  simp [Op.equalIn, go_sem, Tryz.underlying106]
theorem eqin_nilc (d : Nat) (w : World) : (Op.equalIn (d + 1) 106 .nilFunc .nilFunc).run Tryz.prog w = .ok true w := by
  simp [Op.equalIn, go_sem, Tryz.underlying106]
@[go_sem] theorem eql_fnc (f M : Nat) (w : World) : (binOp .eql 106 (fnc f M) .nilFunc).run Tryz.prog w = .ok (.bool false) w := by
  have h : (Op.equal 106 (fnc f M) .nilFunc).run Tryz.prog w = .ok false w := eqin_fnc 9999 f M w
  simp only [binOp]
  simp [go_sem, h]
@[go_sem] theorem eql_nilc (w : World) : (binOp .eql 106 .nilFunc .nilFunc).run Tryz.prog w = .ok (.bool true) w := by
  have h : (Op.equal 106 .nilFunc .nilFunc).run Tryz.prog w = .ok true w := eqin_nilc 9999 w
  simp only [binOp]
  simp [go_sem, h]
set_option maxHeartbeats 1000000 in
theorem cstep_raw (w : World) (X S f : Nat) (c3 : w.cell? ⟨X, 3, none⟩ = some (fnc f X)) (hen : ∀ a w, (callFunc f a).run Tryz.prog w = .ok (.enter f a) w) (b : Bool) (Q : World → Prop)
    (HN : Calls Tryz.prog f #[ptr X, ptr S] w fun e w' => e = .returned (.tuple #[]) ∧ Q w') (hQ : ∀ w', Q w' → (b = true ∧ w'.cell? ⟨X, 3, none⟩ = some .nilFunc) ∨ (b = false ∧ ∃ f', w'.cell? ⟨X, 3, none⟩ = some (fnc f' X))) :
    Calls Tryz.prog 131 #[ptr X, ptr S] w fun e w' => e = .returned (.bool b) ∧ Q w' := by
  cases b
  · have HNN := Lib.hid HN; have HQ := Lib.hid hQ; clear HN hQ
    go_enter Tryz.func131, Tryz.ntmps131
    go_wp2_with (first
      | ((with_reducible refine HNN.out.mono ?_); rintro r w1 ⟨rfl, hk⟩; have HK := Lib.hid hk; obtain ⟨f', d4⟩ : ∃ f', w1.cell? ⟨X, 3, none⟩ = some (fnc f' X) := (by rcases HQ.out w1 hk with ⟨h, _⟩ | ⟨_, h⟩; cases h; exact h); clear hk)
      | fail)
    go_ret
    exact ⟨rfl, HK.out⟩
  · have HNN := Lib.hid HN; have HQ := Lib.hid hQ; clear HN hQ
    go_enter Tryz.func131, Tryz.ntmps131
    go_wp2_with (first
      | ((with_reducible refine HNN.out.mono ?_); rintro r w1 ⟨rfl, hk⟩; have HK := Lib.hid hk; have d4 : w1.cell? ⟨X, 3, none⟩ = some .nilFunc := (by rcases HQ.out w1 hk with ⟨_, h⟩ | ⟨h, _⟩; exact h; cases h); clear hk)
      | fail)
    go_ret
    exact ⟨rfl, HK.out⟩
set_option maxHeartbeats 1000000 in
theorem cstep_off (w : World) (X : Nat) (v : Value) (c3 : w.cell? ⟨X, 3, none⟩ = some .nilFunc) :
    Calls Tryz.prog 131 #[ptr X, v] w fun e w' => e = .returned (.bool true) ∧ w = w' := by
  go_enter Tryz.func131, Tryz.ntmps131
  go_wp2
  go_ret
  exact ⟨rfl, rfl⟩
set_option maxHeartbeats 1000000 in
theorem won_raw (w : World) (X : Nat) (b : Bool) (c5 : w.cell? ⟨X, 5, none⟩ = some (.bool b)) : Calls Tryz.prog 142 #[ptr X] w fun e w' => e = .returned (.bool b) ∧ w = w' := by
  go_enter Tryz.func142, Tryz.ntmps142
  go_wp2
  go_ret
  exact ⟨rfl, rfl⟩
def CM (w : World) (X : Nat) (wk : Int) (m : Cm) : Prop := Cb w X wk m.p m.cy (nxV X m.pc) m.k m.won ∧ m.pc ≤ 4 ∧ (m.pc ≠ 0 → m.won = false)
def ccost (m : Cm) (cc : Int) : Int := if m.pc = 0 then cc else cc + 1
section
variable {w w' : World} {X S D : Nat} {wk : Int} {m : Cm} {L : List Int} {cc : Int}
theorem CM.lt (h : CM w X wk m) : X < w.heap.size := h.1.lt
theorem CM.keep (h : CM w X wk m) (k : w'.heap[X]? = w.heap[X]?) : CM w' X wk m := ⟨k.trans h.1, h.2⟩
theorem CM.new {p cy : Int} (h : Nb w w' X wk p cy (fnc 130 X)) : CM w' X wk (cNew p cy) := ⟨h.1, by simp [cNew], fun _ => rfl⟩
def Bhd (w : World) (X S D : Nat) (wk : Int) (L : List Int) (cc : Int) (m : Cm) (w' : World) : Prop := CM w' X wk m ∧ St w' S D L cc ∧ UF (fun b => b = X ∨ b = S ∨ b = D) w w'
theorem Bhd.of {p cy k : Int} {nx : Value} {won : Bool} (h : Cs w w' X S D wk p cy nx k won L cc) (e1 : m.p = p) (e2 : m.cy = cy) (e3 : nxV X m.pc = nx) (e4 : m.k = k) (e5 : m.won = won) (e6 : m.pc ≤ 4) (e7 : m.pc ≠ 0 → m.won = false) : Bhd w X S D wk L cc m w' := by
  subst e1 e2 e3 e4 e5
  exact ⟨⟨h.mem, e6, e7⟩, h.st, h.u⟩
theorem Bhd.end (h : Bhd w X S D wk L cc m w') : (decide (m.pc = 0) = true ∧ w'.cell? ⟨X, 3, none⟩ = some .nilFunc) ∨ (decide (m.pc = 0) = false ∧ ∃ f', w'.cell? ⟨X, 3, none⟩ = some (fnc f' X)) := by
  obtain ⟨⟨h1, h2, _⟩, _⟩ := h
  have c3 := h1.c3
  have hp : m.pc = 0 ∨ m.pc = 1 ∨ m.pc = 2 ∨ m.pc = 3 ∨ m.pc = 4 := by omega
  rcases hp with e | e | e | e | e
  · left; rw [e] at c3 ⊢; exact ⟨rfl, c3⟩
  all_goals right; rw [e] at c3 ⊢; exact ⟨rfl, _, c3⟩
theorem cstep_any (w : World) (h : CM w X wk m) (hs : St w S D L cc) (n : X ≠ S ∧ X ≠ D) (h0 : 0 ≤ cc) (h1 : cc ≤ 1000000000) :
    Calls Tryz.prog 131 #[ptr X, ptr S] w fun e w' => e = .returned (.bool (decide ((cstp wk L m).2.pc = 0))) ∧ Bhd w X S D wk (cstp wk L m).1 (ccost m cc) (cstp wk L m).2 w' := by
  obtain ⟨hb, hp4, hw⟩ := h
  obtain ⟨pc, p, cy, k, won⟩ := m
  dsimp only at hb hp4 hw
  have hcs : ∀ {nx : Value}, Cb w X wk p cy nx k won → Cs w w X S D wk p cy nx k won L cc := fun h => ⟨h, hs, n, .refl _ _⟩
  have hp : pc = 0 ∨ pc = 1 ∨ pc = 2 ∨ pc = 3 ∨ pc = 4 := by omega
  rcases hp with rfl | rfl | rfl | rfl | rfl
  · have e : cstp wk L ⟨0, p, cy, k, won⟩ = (L, ⟨0, p, cy, k, won⟩) := by simp [cstp]
    rw [e]
    refine (cstep_off w X (ptr S) hb.c3).mono ?_
    rintro r w1 ⟨rfl, rfl⟩
    exact ⟨rfl, .of (hcs hb) rfl rfl rfl rfl rfl (by simp) hw⟩
  · have e : cstp wk L ⟨1, p, cy, k, won⟩ = (L, if cy ≤ ldc L p then ⟨0, p, cy, ldc L p, won⟩ else ⟨2, p, cy, ldc L p, won⟩) := by simp [cstp]
    have hwf := hw (by simp)
    rw [e]
    refine cstep_raw w X S 130 hb.c3 (fun _ _ => rfl) _ _ ((seeMark_any w (hcs hb) h0 h1).mono ?_) (fun w' h => h.end)
    rintro r w1 ⟨rfl, hk⟩
    rw [ldv_cl] at hk
    refine ⟨rfl, ?_⟩
    by_cases hc : cy ≤ ldc L p
    · rw [if_pos hc, if_pos hc] at hk; simp only [if_pos hc]
      exact .of hk rfl rfl rfl rfl hwf (by simp) (by simp)
    · rw [if_neg hc, if_neg hc] at hk; simp only [if_neg hc]
      exact .of hk rfl rfl rfl rfl rfl (by simp) (fun _ => hwf)
  · have e : cstp wk L ⟨2, p, cy, k, won⟩ = (adc L wk 1, ⟨3, p, cy, k, won⟩) := by simp [cstp]
    rw [e]
    refine cstep_raw w X S 141 hb.c3 (fun _ _ => rfl) _ _ ((countTask_any w (hcs hb) h0 h1).mono ?_) (fun w' h => h.end)
    rintro r w1 ⟨rfl, hk⟩
    rw [adv_eq] at hk
    exact ⟨rfl, .of hk rfl rfl rfl rfl rfl (by simp) (fun _ => hw (by simp))⟩
  · have hwf := hw (by simp)
    by_cases hc : (0 ≤ p ∧ p < L.length) ∧ L.getD p.toNat 0 = k
    · have e : cstp wk L ⟨3, p, cy, k, won⟩ = (ptc L p cy, ⟨0, p, cy, k, true⟩) := by
        simp only [cstp]; rw [if_neg (by decide), if_neg (by decide), if_pos trivial, if_pos hc]
      rw [e]
      refine cstep_raw w X S 148 hb.c3 (fun _ _ => rfl) _ _ ((mark_any w (hcs hb) h0 h1).mono ?_) (fun w' h => h.end)
      rintro r w1 ⟨rfl, hk⟩
      obtain ⟨e1, e2⟩ := sw_yes (v := cy) hc
      rw [e1, e2] at hk
      exact ⟨rfl, .of hk rfl rfl rfl rfl rfl (by simp) (by simp)⟩
    · have e : cstp wk L ⟨3, p, cy, k, won⟩ = (L, ⟨4, p, cy, k, won⟩) := by
        simp only [cstp]; rw [if_neg (by decide), if_neg (by decide), if_pos trivial, if_neg hc]
      rw [e]
      refine cstep_raw w X S 148 hb.c3 (fun _ _ => rfl) _ _ ((mark_any w (hcs hb) h0 h1).mono ?_) (fun w' h => h.end)
      rintro r w1 ⟨rfl, hk⟩
      obtain ⟨e1, e2⟩ := sw_no (v := cy) hc
      rw [e1, e2] at hk
      exact ⟨rfl, .of hk rfl rfl rfl rfl rfl (by simp) (fun _ => hwf)⟩
  · have e : cstp wk L ⟨4, p, cy, k, won⟩ = (adc L wk 18446744073709551615, ⟨0, p, cy, k, won⟩) := by simp [cstp]
    have hwf := hw (by simp)
    rw [e]
    refine cstep_raw w X S 156 hb.c3 (fun _ _ => rfl) _ _ ((countBack_any w (hcs hb) h0 h1).mono ?_) (fun w' h => h.end)
    rintro r w1 ⟨rfl, hk⟩
    rw [adv_eq] at hk
    exact ⟨rfl, .of hk rfl rfl rfl rfl hwf (by simp) (by simp)⟩
end
end Go.Proofs.YtpocihddecemfaaGreat
