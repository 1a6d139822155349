/- A marker that looks for a task: how it begins, a step as it stands; walked. -/
import Derived.Test.YtnfbjebhpljikaaGreatJ19
namespace Go.Proofs.YtnfbjebhpljikaaGreat
open Go.RowKit
set_option linter.unusedVariables false
set_option linter.unusedSimpArgs false
set_option maxRecDepth 100000
open Lay (plcc plc shOf packN nodesN OkC Cfg Norm firstV Rep lenL things)

set_option maxHeartbeats 1000000 in
theorem kstep_raw (w : World) (X S f : Nat) (c6 : w.cell? ⟨X, 6, none⟩ = some (fnv f X)) (hen : ∀ a w, (callFunc f a).run Tryz.prog w = .ok (.enter f a) w) (b : Bool) (Q : World → Prop)
    (HN : Calls Tryz.prog f #[ptr X, ptr S] w fun e w' => e = .returned (.tuple #[]) ∧ Q w') (hQ : ∀ w', Q w' → (b = true ∧ w'.cell? ⟨X, 6, none⟩ = some .nilFunc) ∨ (b = false ∧ ∃ f', w'.cell? ⟨X, 6, none⟩ = some (fnv f' X))) :
    Calls Tryz.prog 15 #[ptr X, ptr S] w fun e w' => e = .returned (.bool b) ∧ Q w' := by
  cases b
  · have HNN := Lib.hid HN; have HQ := Lib.hid hQ; clear HN hQ
    go_enter Tryz.func15, Tryz.ntmps15
    go_wp2_with (first
      | ((with_reducible refine HNN.out.mono ?_); rintro r w1 ⟨rfl, hk⟩; have HK := Lib.hid hk; obtain ⟨f', d4⟩ : ∃ f', w1.cell? ⟨X, 6, none⟩ = some (fnv f' X) := (by rcases HQ.out w1 hk with ⟨h, _⟩ | ⟨_, h⟩; cases h; exact h); clear hk)
      | fail)
    go_ret
    exact ⟨rfl, HK.out⟩
  · have HNN := Lib.hid HN; have HQ := Lib.hid hQ; clear HN hQ
    go_enter Tryz.func15, Tryz.ntmps15
    go_wp2_with (first
      | ((with_reducible refine HNN.out.mono ?_); rintro r w1 ⟨rfl, hk⟩; have HK := Lib.hid hk; have d4 : w1.cell? ⟨X, 6, none⟩ = some .nilFunc := (by rcases HQ.out w1 hk with ⟨_, h⟩ | ⟨h, _⟩; exact h; cases h); clear hk)
      | fail)
    go_ret
    exact ⟨rfl, HK.out⟩
set_option maxHeartbeats 1000000 in
theorem kstep_off (w : World) (X : Nat) (v : Value) (c6 : w.cell? ⟨X, 6, none⟩ = some .nilFunc) :
    Calls Tryz.prog 15 #[ptr X, v] w fun e w' => e = .returned (.bool true) ∧ w = w' := by
  go_enter Tryz.func15, Tryz.ntmps15
  go_wp2
  go_ret
  exact ⟨rfl, rfl⟩
/-- A block that has just been made. -/
theorem kb_new (w : World) (N : Nat) (i draw b0 b1 b2 : Int) : Kb (w.alloc (.cells #[Lay.mapP N, .int .i64 i, .int .i64 draw, .int .i64 b0, .int .i64 b1, .int .i64 b2, .nilFunc, .pointer none, .pointer none, .int .u64 0, .bool false] 78)) w.heap.size N i draw b0 b1 b2 .nilFunc (.pointer none) (.pointer none) 0 false := Go.heap_alloc_new _ _
/-- A box of three numbers, of four. -/
def B3 (w : World) (X : Nat) (a b c : Int) : Prop := w.heap[X]? = some (.cells #[.int .i64 a, .int .i64 b, .int .i64 c] 44 (0, 0))
def B4 (w : World) (X : Nat) (a b c d : Int) : Prop := w.heap[X]? = some (.cells #[.int .i64 a, .int .i64 b, .int .i64 c, .int .i64 d] 80 (0, 0))
section
variable {w w' : World} {X : Nat} {a b c d : Int}
theorem B3.lt (h : B3 w X a b c) : X < w.heap.size := (Array.getElem?_eq_some_iff.1 h).1
theorem B4.lt (h : B4 w X a b c d) : X < w.heap.size := (Array.getElem?_eq_some_iff.1 h).1
theorem B3.step (h : B3 w X a b c) (hb : Below w.heap.size w w') : B3 w' X a b c := (hb.block X h.lt).trans h
theorem B4.step (h : B4 w X a b c d) (hb : Below w.heap.size w w') : B4 w' X a b c d := (hb.block X h.lt).trans h
theorem B4.set (h : B4 w X a b c d) (Y : Nat) (hn : X ≠ Y) (j : Nat) (y : Value) : B4 (w.setCell ⟨Y, j, none⟩ y) X a b c d := (heap_setCell_other w ⟨Y, j, none⟩ X y hn).trans h
theorem B3.cc (h : B3 w X a b c) : w.cell? ⟨X, 0, none⟩ = some (.int .i64 a) ∧ w.cell? ⟨X, 1, none⟩ = some (.int .i64 b) ∧ w.cell? ⟨X, 2, none⟩ = some (.int .i64 c) := by
  have := h; unfold B3 at this; simp [World.cell?, this]
theorem B4.cc (h : B4 w X a b c d) : w.cell? ⟨X, 0, none⟩ = some (.int .i64 a) ∧ w.cell? ⟨X, 1, none⟩ = some (.int .i64 b) ∧ w.cell? ⟨X, 2, none⟩ = some (.int .i64 c) ∧ w.cell? ⟨X, 3, none⟩ = some (.int .i64 d) := by
  have := h; unfold B4 at this; simp [World.cell?, this]
theorem B3.f (h : B3 w X a b c) (j : Nat) : w.frozen? ⟨X, j, none⟩ = false := frozen_of_row w X j _ _ h
theorem B3.new (w : World) (a b c : Int) : B3 (w.alloc (.cells #[.int .i64 a, .int .i64 b, .int .i64 c] 44)) w.heap.size a b c := Go.heap_alloc_new _ _
theorem B4.new (w : World) (a b c d : Int) : B4 (w.alloc (.cells #[.int .i64 a, .int .i64 b, .int .i64 c, .int .i64 d] 80)) w.heap.size a b c d := Go.heap_alloc_new _ _
end
set_option maxHeartbeats 4000000 in
theorem newK_raw {c : Cfg} (hc : OkC c) (N : Nat) (i draw : Int) (b : Bg) (hi : (Lit.int .i64 i).wf = true) (w : World) (hm : Lay.IsMap w N c) (h : 0 ≤ plcc c 8 i 0) :
    Calls Tryz.prog 14 #[Lay.mapP N, .int .i64 i, bgV b.p b.t b.n, .int .i64 draw] w fun e w' => ∃ X M, e = .returned (ptr X) ∧ w.heap.size ≤ X ∧ w.heap.size ≤ M ∧ M ≠ X ∧ Kb w' X N i draw b.p (kbd b.t) (kbd b.n) (fnv 46 X) (ptr M) (.pointer none) 0 false ∧ Dg.MM w' M (Dg.mPop (eOf c i)) ∧ Below w.heap.size w w' := by
  have hmf : ∀ (fn : Fn) (first cap : Array Value) (w : World), (Instr.makeFunc fn first cap).run Tryz.prog w = .ok (.func fn first cap) w := fun _ _ _ _ => rfl
  obtain ⟨X, hX⟩ : ∃ X, X = w.heap.size + 1 := ⟨_, rfl⟩
  obtain ⟨W0, hW⟩ : ∃ W0, W0 = (w.alloc (.cells #[.int .i64 b.p, .int .i64 b.t, .int .i64 b.n] 44)).alloc (.cells #[Lay.mapP N, .int .i64 i, .int .i64 draw, .int .i64 b.p, .int .i64 b.t, .int .i64 b.n, .nilFunc, .pointer none, .pointer none, .int .u64 0, .bool false] 78) := ⟨_, rfl⟩
  have HA0 : Hid (Kb W0 X N i draw b.p b.t b.n .nilFunc (.pointer none) (.pointer none) 0 false) := Lib.hid (by
    rw [hW, hX]
    have := kb_new (w.alloc (.cells #[.int .i64 b.p, .int .i64 b.t, .int .i64 b.n] 44)) N i draw b.p b.t b.n
    rwa [show (w.alloc (.cells #[.int .i64 b.p, .int .i64 b.t, .int .i64 b.n] 44)).heap.size = w.heap.size + 1 by simp] at this)
  have HB0 : Hid (Below w.heap.size w W0) := Lib.hid (by rw [hW]; exact below_alloc0 (below_alloc0 (Below.refl w.heap.size w) _) _)
  have HG0 : Hid (B3 W0 w.heap.size b.p b.t b.n) := Lib.hid (by rw [hW]; exact (B3.new w b.p b.t b.n).step (below_alloc0 (Below.refl _ _) _))
  have HM := Lib.hid hm
  have HC := Lib.hid hc
  have HI := Lib.hid hi
  obtain ⟨e, he⟩ : ∃ e, e = eOf c i := ⟨_, rfl⟩
  obtain ⟨e0, e1, e2, e3⟩ := e
  have ee : enC c i = .agg #[.int .i64 e0, .int .i64 e1, .int .i64 e2, .int .i64 e3] := by unfold enC; rw [← he]
  have d1 : decide (e0 < 0) = false := by
    have : e0 = plcc c 8 i 0 := congrArg Dg.En.top he
    rw [this]; simpa using h
  rw [← he]
  have HE := Lib.hid ee
  rw [hW, hX] at HA0
  rw [hW] at HB0 HG0
  clear hm hc hi he ee h hW hX W0 X
  go_enter Tryz.func14, Tryz.ntmps14
  go_wp2_with (first
    | (go_at_call 43; (with_reducible refine (ends_any HC.out N i HI.out _ (HM.out.below HB0.out)).mono ?_); rintro r w1 ⟨rfl, hb⟩; rw [HE.out]; have HA1 := Lib.hid ((HA0.out.step hb).step (below_alloc0 (Below.refl w1.heap.size w1) (.cells #[.int .i64 e0, .int .i64 e1, .int .i64 e2, .int .i64 e3] 80))); have HB1 := Lib.hid (below_alloc0 (below_step HB0.out HB0.out.size hb) (.cells #[.int .i64 e0, .int .i64 e1, .int .i64 e2, .int .i64 e3] 80)); have HG1 := Lib.hid ((HG0.out.step hb).step (below_alloc0 (Below.refl w1.heap.size w1) (.cells #[.int .i64 e0, .int .i64 e1, .int .i64 e2, .int .i64 e3] 80))); have HO1 := Lib.hid (B4.new w1 e0 e1 e2 e3); obtain ⟨g0, g1, g2⟩ := HG1.out.cc; have HL1 := Lib.hid (HA0.out.step hb).lt; clear hb)
    | (go_at_call 44; (with_reducible refine (bounded_any _ _ _ _).mono ?_); rintro r w2 ⟨rfl, hb⟩; have HA2 := Lib.hid (HA1.out.step hb); have HB2 := Lib.hid (below_step HB1.out HB1.out.size hb); have HO2 := Lib.hid (HO1.out.step hb); clear hb g0 g1 g2; obtain ⟨_, _, _, q3, q4, q5⟩ := HA2.out.cc; have f3 := HA2.out.f 3; have f4 := HA2.out.f 4; have f5 := HA2.out.f 5; have HA3 := Lib.hid (HA2.out.pb b.p (kbd b.t) (kbd b.n)); have HO3 := Lib.hid (((HO2.out.set (w.heap.size + 1) (by have := HL1.out; omega) 3 (.int .i64 b.p)).set (w.heap.size + 1) (by have := HL1.out; omega) 4 (.int .i64 (kbd b.t))).set (w.heap.size + 1) (by have := HL1.out; omega) 5 (.int .i64 (kbd b.n))); obtain ⟨o0, o1, o2, o3⟩ := HO3.out.cc)
    | (go_at_call 45; (with_reducible refine (Dg.pop_any ⟨e0, e1, e2, e3⟩ _).mono ?_); rintro r w4 ⟨M, rfl, hM, hmm, hb⟩; have HA4 := Lib.hid (HA3.out.step hb); have HB4 := Lib.hid hb; have HMM := Lib.hid hmm; have HLT := Lib.hid hM; clear hb hmm hM o0 o1 o2 o3; have q7 := HA4.out.c7; have f7 := HA4.out.f 7; have HA5 := Lib.hid (HA4.out.p7 (ptr M)); have q6 := HA5.out.c6; have f6 := HA5.out.f 6; have HA6 := Lib.hid (HA5.out.p6 (fnv 46 (w.heap.size + 1))))
    | fail)
  go_ret
  have hl := HLT.out
  have hs := HB1.out.size
  have hs2 := HB2.out.size
  have ha := HA2.out.lt
  simp at hl
  have hne : M ≠ w.heap.size + 1 := by omega
  have b4 : Below w.heap.size w w4 := below_step (below_uf HB2.out (Nat.le_refl _) (uf_set3 (X := w.heap.size + 1) (a := 3) (b := 4) (d := 5) (.int .i64 b.p) (.int .i64 (kbd b.t)) (.int .i64 (kbd b.n))) (fun k e => by omega)) (by simp; exact hs2) HB4.out
  exact ⟨w.heap.size + 1, M, rfl, Nat.le_succ _, by omega, hne, HA6.out, dmm_same (dmm_same HMM.out (heap_setCell_other w4 ⟨w.heap.size + 1, 7, none⟩ M _ hne)) (heap_setCell_other _ ⟨w.heap.size + 1, 6, none⟩ M _ hne), below_uf (below_uf b4 (Nat.le_refl _) (UF.set _ _ 7 _) (fun k e => by omega)) (Nat.le_refl _) (UF.set _ _ 6 _) (fun k e => by omega)⟩
end Go.Proofs.YtnfbjebhpljikaaGreat
