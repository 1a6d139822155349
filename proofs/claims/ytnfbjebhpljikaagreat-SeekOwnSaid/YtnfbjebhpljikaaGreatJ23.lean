/- A machine that puts a task somewhere, over a store of the call's own: a step, and all steps; walked. A marker that looks for a task, over a store of the call's own: a step, and many; what it tells; walked. -/
import Derived.Test.YtnfbjebhpljikaaGreatJ22
import Derived.Test.YtnfbjebhpljikaaGreatAdAl
import Derived.Test.YtnfbjebhpljikaaGreatJ21
import Derived.Test.YtnfbjebhpljikaaGreatSeK
namespace Go.Proofs.YtnfbjebhpljikaaGreat
open Go.RowKit
set_option linter.unusedVariables false
set_option linter.unusedSimpArgs false
set_option maxRecDepth 100000
open Lay (plcc plc shOf packN nodesN OkC Cfg Norm firstV Rep lenL things)

section
variable {B S D N : Nat} {c : Cfg} {w0 w w' : World} {L : List Int} {k t : Int} {X lo : Nat} {m : Am}
/-- A machine in memory whose blocks are not below lo, apart from the store. -/
def AKX (lo : Nat) (w : World) (X S D : Nat) (c : Cfg) (N : Nat) (m : Am) : Prop := ∃ O Dp, AKM w X O Dp c N m ∧ (∀ b, O b → lo ≤ b) ∧ ¬ Dp S ∧ ¬ Dp D
theorem AKX.of_new {e : Ending} (h : PO B S D N c w0 w L k) (hn : NewA w c N m e w') : ∃ X, e = .returned (ptr X) ∧ AKX w.heap.size w' X S D c N m ∧ PO B S D N c w0 w' L k ∧ Below w.heap.size w w' := by
  obtain ⟨X, O, Dp, rfl, hp, hd, hb⟩ := hn
  have hl := h.lt
  exact ⟨X, rfl, ⟨O, Dp, hp, fun b hb => hd b (hp.ins.2.1 b hb), fun d => by have := hd S d; omega, fun d => by have := hd D d; omega⟩, h.step hb, hb⟩
theorem AKX.below (h : AKX lo w X S D c N m) (hb : Below w.heap.size w w') : AKX lo w' X S D c N m := by
  obtain ⟨O, Dp, hp, a⟩ := h
  exact ⟨O, Dp, hp.below hb, a⟩
/-- A step of it. -/
theorem step_ao (h : PO B S D N c w0 w L k) (hx : AKX lo w X S D c N m) (hlo : S < lo ∧ D < lo ∧ N < lo ∧ B ≤ lo ∧ lo ≤ w.heap.size) (wm : AW c t m) (hk : k ≤ 800000000) (ht : t ≤ 800000000) :
    Calls Tryz.prog 20 #[ptr X, ptr S] w fun e w' => e = .returned (.bool (decide ((astp (gOf c) L m).2.pc = 0))) ∧ PO B S D N c w0 w' (astp (gOf c) L m).1 (k + 1) ∧ AKX lo w' X S D c N (astp (gOf c) L m).2 ∧
      UF (fun b => b = S ∨ b = D ∨ lo ≤ b) w w' := by
  obtain ⟨cc, h0, h1, hs⟩ := h.st
  obtain ⟨O, Dp, hp, ho, hS, hD⟩ := hx
  have hl := h.lt
  have hB := h.lo
  refine (step_ak h.ok hp hs h.mp hS hD (fun hh => by have := ho N hh; omega) h.ns.1 h.ns.2 wm h.ww h0 (by omega) (by omega)).mono ?_
  rintro e w' ⟨rfl, ⟨O', D', hp', ho', hd'⟩, hs', u⟩
  have u2 : UF (fun b => b = S ∨ b = D ∨ lo ≤ b) w w' := u.mono fun b _ hb => by
    rcases hb with hb | hb | hb
    · exact .inl hb
    · exact .inr (.inl hb)
    · exact .inr (.inr (ho b hb))
  refine ⟨rfl, ⟨⟨acost m cc, ?_, ?_, hs'⟩, IsMap_same h.mp u2.size (u2.block N hl.2.2 (by have := h.ns; omega)), h.ok, h.ns, h.lo, (wm.step h.ww).2, below_uf h.bel h.lo.2.2 u2 (fun b hb => by omega)⟩, ⟨O', D', hp', fun b hb => ?_, fun hh => ?_, fun hh => ?_⟩, u2⟩
  · unfold acost; split <;> omega
  · unfold acost; split <;> omega
  · rcases ho' b hb with x | x
    · exact ho b x
    · omega
  · rcases hd' S hh with x | x
    · exact hS x
    · omega
  · rcases hd' D hh with x | x
    · exact hD x
    · omega
theorem spilled_ao (hx : AKX lo w X S D c N m) : Calls Tryz.prog 90 #[ptr X] w fun a w' => a = .returned (.bool m.sp) ∧ Below w.heap.size w w' := by
  obtain ⟨O, Dp, hp, _⟩ := hx
  exact hp.spilled

theorem aruns_succ (g : Pg) (i : Nat) (L : List Int) (m : Am) : astp g (aruns g i L m).1 (aruns g i L m).2 = aruns g (i + 1) L m := by
  rw [aruns_add g i 1]; rfl
theorem aw_runs {c : Cfg} : ∀ (i : Nat) {L : List Int} {m : Am} {t : Int}, WW L → AW c t m → WW (aruns (gOf c) i L m).1 ∧ AW c (t + i) (aruns (gOf c) i L m).2
  | 0, L, m, t, h, h2 => ⟨h, (show AW c (t + ((0 : Nat) : Int)) m from h2.mono (by omega))⟩
  | i + 1, L, m, t, h, h2 => by
    have ih := aw_runs i h h2
    rw [← aruns_succ]
    have s := ih.2.step ih.1
    exact ⟨s.2, s.1.mono (by omega)⟩
/-- Not finished ahead of where it is not. -/
theorem anot_yet {g : Pg} {i j : Nat} (h : i ≤ j) (hj : (aruns g j L m).2.pc ≠ 0) : (aruns g i L m).2.pc ≠ 0 := fun e => by
  apply hj
  obtain ⟨d, rfl⟩ : ∃ d, j = i + d := ⟨j - i, by omega⟩
  rw [aruns_add, aruns_done e]; exact e
/-- Behind i steps. -/
structure ARn (B S D N : Nat) (c : Cfg) (w0 w1 w : World) (lo X : Nat) (L : List Int) (m : Am) (i : Nat) (k : Int) : Prop where
  po : PO B S D N c w0 w (aruns (gOf c) i L m).1 (k + i)
  mm : AKX lo w X S D c N (aruns (gOf c) i L m).2
  u : UF (fun b => b = S ∨ b = D ∨ lo ≤ b) w1 w
theorem ARn.start (h : PO B S D N c w0 w L k) (hx : AKX lo w X S D c N m) : ARn B S D N c w0 w w lo X L m 0 k := by
  refine ⟨?_, ?_, .refl _ _⟩
  · show PO B S D N c w0 w L (k + ((0 : Nat) : Int)); exact h.more (by omega)
  · exact hx
theorem arun_step {w1 : World} {i : Nat} (h : ARn B S D N c w0 w1 w lo X L m i k) (hlo : S < lo ∧ D < lo ∧ N < lo ∧ B ≤ lo ∧ lo ≤ w1.heap.size) (wm : AW c t m) (ww : WW L) (hk : k + i ≤ 800000000) (ht : t + i ≤ 800000000) :
    Calls Tryz.prog 20 #[ptr X, ptr S] w fun e w' => e = .returned (.bool (decide ((aruns (gOf c) (i + 1) L m).2.pc = 0))) ∧ ARn B S D N c w0 w1 w' lo X L m (i + 1) k := by
  have hsz := h.u.size
  refine (step_ao h.po h.mm ⟨hlo.1, hlo.2.1, hlo.2.2.1, hlo.2.2.2.1, by omega⟩ (aw_runs i ww wm).2 hk ht).mono ?_
  rintro e w' ⟨rfl, h1, h2, h3⟩
  rw [aruns_succ] at h1 h2 ⊢
  exact ⟨rfl, h1.more (by omega), h2, h.u.trans h3 (fun _ x => x) (fun _ _ x => x)⟩
/-- How many steps it took: n as it is told, j as they were. -/
def Took (g : Pg) (L : List Int) (m : Am) (n j : Nat) : Prop :=
  (∀ i, 1 ≤ i → i < j → (aruns g i L m).2.pc ≠ 0) ∧ ((n = j ∧ 1 ≤ j ∧ j ≤ 19 ∧ (aruns g j L m).2.pc = 0) ∨ (n = 20 ∧ j = 19 ∧ (aruns g 19 L m).2.pc ≠ 0))
theorem Took.is {g : Pg} {n j q : Nat} (h : Took g L m n j) (h0 : 1 ≤ q) (h1 : (aruns g (q - 1) L m).2.pc ≠ 0) (h2 : (aruns g q L m).2.pc = 0) (h9 : q ≤ 19) : n = q ∧ j = q := by
  obtain ⟨a, b⟩ := h
  have e19 : (aruns g 19 L m).2.pc = 0 := by
    obtain ⟨d, hd⟩ : ∃ d, 19 = q + d := ⟨19 - q, by omega⟩
    rw [hd, aruns_add, aruns_done h2]; exact h2
  rcases b with ⟨rfl, b1, b2, b3⟩ | ⟨_, _, b3⟩
  · have key : n = q := by
      rcases Nat.lt_trichotomy n q with x | x | x
      · exact absurd b3 (anot_yet (by omega) h1)
      · exact x
      · exact absurd h2 (a q h0 x)
    exact ⟨key, key⟩
  · exact absurd e19 b3
end
attribute [local irreducible] aruns

end Go.Proofs.YtnfbjebhpljikaaGreat

namespace Go.Proofs.YtnfbjebhpljikaaGreat
open Go.RowKit
set_option linter.unusedVariables false
set_option linter.unusedSimpArgs false
set_option maxRecDepth 100000
open Lay (plcc plc shOf packN nodesN OkC Cfg Norm firstV Rep lenL things)

/-- Steps, of a configuration. -/
abbrev kst (c : Cfg) (L : List Int) (m : Km) : List Int × Km := kstp (pkn c) (gOf c) (eOf c) c.mr L m
abbrev krs (c : Cfg) (i : Nat) (L : List Int) (m : Km) : List Int × Km := kruns (pkn c) (gOf c) (eOf c) c.mr i L m
section
variable {B S D N : Nat} {c : Cfg} {w0 w w' : World} {L : List Int} {k t : Int} {X lo : Nat} {m : Km}
/-- A machine in memory whose blocks are not below lo, apart from the store. -/
def SKX (lo : Nat) (w : World) (X S D : Nat) (c : Cfg) (N : Nat) (m : Km) : Prop := ∃ O Dp, SEM w X O Dp c N m ∧ (∀ b, O b → lo ≤ b) ∧ ¬ Dp S ∧ ¬ Dp D
theorem SKX.below (h : SKX lo w X S D c N m) (hb : Below w.heap.size w w') : SKX lo w' X S D c N m := by
  obtain ⟨O, Dp, hp, a⟩ := h
  exact ⟨O, Dp, hp.below hb, a⟩
/-- Its block. -/
theorem SKX.kb (h : SKX lo w X S D c N m) : ∃ nx dv pv, Kb w X N m.i m.draw m.bag.p m.bag.t m.bag.n nx dv pv m.task m.found := by
  obtain ⟨O, Dp, ⟨_, _, _, _, nx, dv, pv, h, _⟩, _⟩ := h
  exact ⟨nx, dv, pv, h⟩
theorem SKX.ne (h : SKX lo w X S D c N m) : X ≠ S ∧ X ≠ D ∧ lo ≤ X ∧ X < w.heap.size := by
  obtain ⟨O, Dp, hp, ho, hS, hD⟩ := h
  have dX : Dp X := hp.ins.2.1 X hp.ins.1
  exact ⟨fun e => hS (e ▸ dX), fun e => hD (e ▸ dX), ho X hp.ins.1, hp.lt⟩
theorem task_so (h : SKX lo w X S D c N m) : Calls Tryz.prog 16 #[ptr X] w fun e w' => e = .returned (.tuple #[.int .u64 m.task, .bool m.found]) ∧ Below w.heap.size w w' := by
  obtain ⟨nx, dv, pv, h⟩ := h.kb
  exact task_raw h
theorem bag_so (h : SKX lo w X S D c N m) : Calls Tryz.prog 17 #[ptr X] w fun e w' => e = .returned (bgV m.bag.p m.bag.t m.bag.n) ∧ Below w.heap.size w w' := by
  obtain ⟨nx, dv, pv, h⟩ := h.kb
  exact bag_raw h
/-- One is begun. -/
theorem new_so (h : PO B S D N c w0 w L k) (i draw : Int) (b : Bg) (hi : (Lit.int .i64 i).wf = true) (h0 : 0 ≤ i) (h1 : i < c.mr) :
    Calls Tryz.prog 14 #[Lay.mapP N, .int .i64 i, bgV b.p b.t b.n, .int .i64 draw] w fun e w' => ∃ X, e = .returned (ptr X) ∧ SKX w.heap.size w' X S D c N (kNew (eOf c i) i b draw) ∧ PO B S D N c w0 w' L k ∧ Below w.heap.size w w' := by
  have hl := h.lt
  refine (newK_raw h.ok N i draw b hi w h.mp (top_pos h.ok h0 h1)).mono ?_
  rintro e w' ⟨X, M, rfl, hX, hM, hne, hk, hm, hb⟩
  refine ⟨X, rfl, ⟨fun k => k = X ∨ k = M, fun k => k = X ∨ k = M, ⟨by omega, .inl rfl, fun k h => h, fun k h => ?_, _, _, _, hk, .inr (.inr (.inl ⟨.inl ⟨rfl, rfl⟩, by simp [kNew, Dg.mPop], M, rfl, hm, .inr rfl, hne, by omega⟩))⟩, fun b h => ?_, fun h => ?_, fun h => ?_⟩, h.step hb, hb⟩
  · rcases h with rfl | rfl
    · exact hk.lt
    · exact hm.lt
  · rcases h with rfl | rfl
    · exact hX
    · exact hM
  · rcases h with h | h <;> omega
  · rcases h with h | h <;> omega
theorem new_so3 (h : PO B S D N c w0 w L k) (i draw b0 b1 b2 : Int) (hi : (Lit.int .i64 i).wf = true) (h0 : 0 ≤ i) (h1 : i < c.mr) :
    Calls Tryz.prog 14 #[Lay.mapP N, .int .i64 i, bgV b0 b1 b2, .int .i64 draw] w fun e w' => ∃ X, e = .returned (ptr X) ∧ SKX w.heap.size w' X S D c N (kNew (eOf c i) i ⟨b0, b1, b2⟩ draw) ∧ PO B S D N c w0 w' L k ∧ Below w.heap.size w w' :=
  new_so h i draw ⟨b0, b1, b2⟩ hi h0 h1
/-- A step of it. -/
theorem step_so (h : PO B S D N c w0 w L k) (hx : SKX lo w X S D c N m) (hlo : S < lo ∧ D < lo ∧ N < lo ∧ B ≤ lo ∧ lo ≤ w.heap.size) (wm : KW c t m) (hk : k ≤ 800000000) (ht : t ≤ 800000000) :
    Calls Tryz.prog 15 #[ptr X, ptr S] w fun e w' => e = .returned (.bool (decide ((kst c L m).2.pc = 0))) ∧ PO B S D N c w0 w' (kst c L m).1 (k + 1) ∧ SKX lo w' X S D c N (kst c L m).2 ∧
      UF (fun b => b = S ∨ b = D ∨ lo ≤ b) w w' := by
  obtain ⟨cc, h0, h1, hs⟩ := h.st
  obtain ⟨O, Dp, hp, ho, hS, hD⟩ := hx
  have hl := h.lt
  have hB := h.lo
  refine (step_se h.ok hp hs h.mp hS hD (fun hh => by have := ho N hh; omega) h.ns.1 h.ns.2 wm h.ww h0 (by omega) (by omega)).mono ?_
  rintro e w' ⟨rfl, ⟨O', D', hp', ho', hd'⟩, hs', u⟩
  have u2 : UF (fun b => b = S ∨ b = D ∨ lo ≤ b) w w' := u.mono fun b _ hb => by
    rcases hb with hb | hb | hb
    · exact .inl hb
    · exact .inr (.inl hb)
    · exact .inr (.inr (ho b hb))
  refine ⟨rfl, ⟨⟨kcost m cc, ?_, ?_, hs'⟩, IsMap_same h.mp u2.size (u2.block N hl.2.2 (by have := h.ns; omega)), h.ok, h.ns, h.lo, (wm.step h.ok h.ww).2, below_uf h.bel h.lo.2.2 u2 (fun b hb => by omega)⟩, ⟨O', D', hp', fun b hb => ?_, fun hh => ?_, fun hh => ?_⟩, u2⟩
  · unfold kcost; split <;> omega
  · unfold kcost; split <;> omega
  · rcases ho' b hb with x | x
    · exact ho b x
    · omega
  · rcases hd' S hh with x | x
    · exact hS x
    · omega
  · rcases hd' D hh with x | x
    · exact hD x
    · omega
theorem kruns_succ (i : Nat) (L : List Int) (m : Km) : kst c (krs c i L m).1 (krs c i L m).2 = krs c (i + 1) L m := by
  show _ = kruns _ _ _ _ (i + 1) L m
  rw [kruns_add i 1]; rfl
theorem kw_runs (hc : OkC c) : ∀ (i : Nat) {L : List Int} {m : Km} {t : Int}, WW L → KW c t m → WW (krs c i L m).1 ∧ KW c (t + i) (krs c i L m).2
  | 0, L, m, t, h, h2 => ⟨h, (show KW c (t + ((0 : Nat) : Int)) m from h2.mono (by omega))⟩
  | i + 1, L, m, t, h, h2 => by
    have ih := kw_runs hc i h h2
    rw [← kruns_succ]
    have s := ih.2.step hc ih.1
    exact ⟨s.2, s.1.mono (by omega)⟩
/-- Behind i steps. -/
structure SRn (B S D N : Nat) (c : Cfg) (w0 w1 w : World) (lo X : Nat) (L : List Int) (m : Km) (i : Nat) (k : Int) : Prop where
  po : PO B S D N c w0 w (krs c i L m).1 (k + i)
  mm : SKX lo w X S D c N (krs c i L m).2
  u : UF (fun b => b = S ∨ b = D ∨ lo ≤ b) w1 w
theorem SRn.start (h : PO B S D N c w0 w L k) (hx : SKX lo w X S D c N m) : SRn B S D N c w0 w w lo X L m 0 k := by
  refine ⟨?_, ?_, .refl _ _⟩
  · show PO B S D N c w0 w L (k + ((0 : Nat) : Int)); exact h.more (by omega)
  · exact hx
theorem srun_step {w1 : World} {i : Nat} (h : SRn B S D N c w0 w1 w lo X L m i k) (hlo : S < lo ∧ D < lo ∧ N < lo ∧ B ≤ lo ∧ lo ≤ w1.heap.size) (wm : KW c t m) (ww : WW L) (hk : k + i ≤ 800000000) (ht : t + i ≤ 800000000) :
    Calls Tryz.prog 15 #[ptr X, ptr S] w fun e w' => e = .returned (.bool (decide ((krs c (i + 1) L m).2.pc = 0))) ∧ SRn B S D N c w0 w1 w' lo X L m (i + 1) k := by
  have hsz := h.u.size
  refine (step_so h.po h.mm ⟨hlo.1, hlo.2.1, hlo.2.2.1, hlo.2.2.2.1, by omega⟩ (kw_runs h.po.ok i ww wm).2 hk ht).mono ?_
  rintro e w' ⟨rfl, h1, h2, h3⟩
  rw [kruns_succ] at h1 h2 ⊢
  exact ⟨rfl, h1.more (by omega), h2, h.u.trans h3 (fun _ x => x) (fun _ _ x => x)⟩
end
end Go.Proofs.YtnfbjebhpljikaaGreat
