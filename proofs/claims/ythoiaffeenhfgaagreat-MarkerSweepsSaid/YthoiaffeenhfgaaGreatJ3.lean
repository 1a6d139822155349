/-  -/
import Derived.Test.YthoiaffeenhfgaaGreatJ2
import Derived.Test.YthoiaffeenhfgaaGreatJ28
import Derived.Test.YthoiaffeenhfgaaGreatJ27
import Derived.Test.YthoiaffeenhfgaaGreatJ10
namespace Go.Proofs.YthoiaffeenhfgaaGreat
set_option linter.unusedVariables false
set_option linter.unusedSimpArgs false
section
variable {n : Nat} {g : Wg} {cy : Int} {L0 L L' : List Int} {T T' : Int} {F F' : Int → Nat} {PD PD' : Int → Bool} {Ts Ts' : Nat → Int} {Qs Qs' : Nat → List Int} {M : Nat → Wn} {m m' : Wn} {k : Nat}
theorem wleft_le : ∀ n : Nat, wleft n F ≤ n := fun n => by
  have := List.countP_le_length (p := fun (v : Nat) => decide (F ((v : Int) + 1) ≠ 2)) (l := List.range n)
  simpa [wleft] using this
theorem fset_fset {α : Type} (f : Nat → α) (k : Nat) (a b : α) : fset (fset f k a) k b = fset f k b := by
  funext i; unfold fset; split <;> rfl
theorem three {α : Type} (f : α → Int) (M M' : Nat → α) (k : Nat) (hk : k < 3) (d : Int) (h1 : f (M' k) + d ≤ f (M k)) (h2 : ∀ i, i < 3 → i ≠ k → f (M' i) ≤ f (M i)) : f (M' 0) + f (M' 1) + f (M' 2) + d ≤ f (M 0) + f (M 1) + f (M 2) := by
  have : k = 0 ∨ k = 1 ∨ k = 2 := by omega
  rcases this with rfl | rfl | rfl
  · have a := h2 1 (by omega) (by omega); have b := h2 2 (by omega) (by omega); omega
  · have a := h2 0 (by omega) (by omega); have b := h2 2 (by omega) (by omega); omega
  · have a := h2 0 (by omega) (by omega); have b := h2 1 (by omega) (by omega); omega
end
end Go.Proofs.YthoiaffeenhfgaaGreat

namespace Go.Proofs.YthoiaffeenhfgaaGreat
set_option linter.unusedVariables false
set_option linter.unusedSimpArgs false
theorem cnt_split (p q r : Nat → Bool) (h : ∀ j, (p j).toNat = (q j).toNat + (r j).toNat) : ∀ N : Nat, (List.range N).countP p = (List.range N).countP q + (List.range N).countP r
  | 0 => by simp
  | N + 1 => by
    have ih := cnt_split p q r h N
    have := h N
    rw [List.range_succ, List.countP_append, List.countP_append, List.countP_append, ih]
    cases hp : p N <;> cases hq : q N <;> cases hr : r N <;> simp [hp, hq, hr] at this ⊢ <;> omega
theorem cnt_ge (p : Nat → Bool) (a b : Nat) (h : ∀ j, a ≤ j → j < b → p j = true) : ∀ N : Nat, b ≤ N → b - a ≤ (List.range N).countP p
  | 0, hb => by simp; omega
  | N + 1, hb => by
    rw [List.range_succ, List.countP_append]
    by_cases e : b ≤ N
    · have := cnt_ge p a b h N e; omega
    · have hbN : b = N + 1 := by omega
      by_cases ea : a ≤ N
      · have h1 := h N ea (by omega)
        have h2 := cnt_ge p a N (fun j x y => h j x (by omega)) N (Nat.le_refl _)
        simp only [List.countP_singleton, h1, if_true]
        omega
      · omega
def wout (n : Nat) (g : Wg) (F : Int → Nat) (j : Int) : Nat := (List.range n).countP fun (v : Nat) => decide (F ((v : Int) + 1) ≠ 2) && !(decide (j * g.per < (v : Int) + 1) && decide ((v : Int) + 1 ≤ (j + 1) * g.per))
def win (n : Nat) (g : Wg) (F : Int → Nat) (j : Int) : Nat := (List.range n).countP fun (v : Nat) => decide (F ((v : Int) + 1) ≠ 2) && (decide (j * g.per < (v : Int) + 1) && decide ((v : Int) + 1 ≤ (j + 1) * g.per))
theorem wleft_split (n : Nat) (g : Wg) (F : Int → Nat) (j : Int) : wleft n F = wout n g F j + win n g F j :=
  cnt_split _ _ _ (fun v => by cases decide (F ((v : Int) + 1) ≠ 2) <;> cases (decide (j * g.per < (v : Int) + 1) && decide ((v : Int) + 1 ≤ (j + 1) * g.per)) <;> rfl) n
theorem wout_same {n : Nat} {g : Wg} {F F' : Int → Nat} {j : Int} (h : ∀ u, F' u ≠ F u → InPt g j u) : wout n g F' j = wout n g F j := List.countP_congr fun x _ => by
  by_cases e : F' ((x : Int) + 1) = F ((x : Int) + 1)
  · rw [e]
  · have := h _ e
    have d1 : decide (j * g.per < (x : Int) + 1) = true := by simpa using this.1
    have d2 : decide ((x : Int) + 1 ≤ (j + 1) * g.per) = true := by simpa using this.2
    simp [d1, d2]
theorem win_same {n : Nat} {g : Wg} {F F' : Int → Nat} {j : Int} (h : ∀ u, F' u ≠ F u → ¬ InPt g j u) : win n g F' j = win n g F j := List.countP_congr fun x _ => by
  by_cases e : F' ((x : Int) + 1) = F ((x : Int) + 1)
  · rw [e]
  · have := h _ e
    by_cases d1 : j * g.per < (x : Int) + 1
    · have d2 : ¬ (x : Int) + 1 ≤ (j + 1) * g.per := fun y => this ⟨d1, y⟩
      have d3 : decide ((x : Int) + 1 ≤ (j + 1) * g.per) = false := by simpa using d2
      simp [d3]
    · have d3 : decide (j * g.per < (x : Int) + 1) = false := by simpa using d1
      simp [d3]
def wsum (f : Nat → Int) : Nat → Int
  | 0 => 0
  | K + 1 => wsum f K + f K
theorem sum_le (f f' : Nat → Int) {K k : Nat} (hK : K = 1 ∨ K = 2 ∨ K = 3 ∨ K = 4) (hk : k < K) (d e : Int) (h1 : f' k + d ≤ f k) (h2 : ∀ i, i < K → i ≠ k → f' i ≤ f i + e) : wsum f' K + d ≤ wsum f K + ((K : Int) - 1) * e := by
  rcases hK with rfl | rfl | rfl | rfl
  · obtain rfl : k = 0 := by omega
    simp only [wsum]; omega
  · have : k = 0 ∨ k = 1 := by omega
    rcases this with rfl | rfl
    · have a := h2 1 (by omega) (by omega); simp only [wsum]; omega
    · have a := h2 0 (by omega) (by omega); simp only [wsum]; omega
  · have : k = 0 ∨ k = 1 ∨ k = 2 := by omega
    rcases this with rfl | rfl | rfl
    · have a := h2 1 (by omega) (by omega); have b := h2 2 (by omega) (by omega); simp only [wsum]; omega
    · have a := h2 0 (by omega) (by omega); have b := h2 2 (by omega) (by omega); simp only [wsum]; omega
    · have a := h2 0 (by omega) (by omega); have b := h2 1 (by omega) (by omega); simp only [wsum]; omega
  · have : k = 0 ∨ k = 1 ∨ k = 2 ∨ k = 3 := by omega
    rcases this with rfl | rfl | rfl | rfl
    · have a := h2 1 (by omega) (by omega); have b := h2 2 (by omega) (by omega); have c := h2 3 (by omega) (by omega); simp only [wsum]; omega
    · have a := h2 0 (by omega) (by omega); have b := h2 2 (by omega) (by omega); have c := h2 3 (by omega) (by omega); simp only [wsum]; omega
    · have a := h2 0 (by omega) (by omega); have b := h2 1 (by omega) (by omega); have c := h2 3 (by omega) (by omega); simp only [wsum]; omega
    · have a := h2 0 (by omega) (by omega); have b := h2 1 (by omega) (by omega); have c := h2 2 (by omega) (by omega); simp only [wsum]; omega
theorem sum_one (f : Nat → Int) {K k : Nat} (hK : K = 1 ∨ K = 2 ∨ K = 3 ∨ K = 4) (hk : k < K) (h : ∀ i, i < K → 0 ≤ f i) : f k ≤ wsum f K := by
  have h0 := h 0 (by omega)
  rcases hK with rfl | rfl | rfl | rfl
  · obtain rfl : k = 0 := by omega
    simp only [wsum]; omega
  · have h1 := h 1 (by omega)
    have : k = 0 ∨ k = 1 := by omega
    rcases this with rfl | rfl <;> simp only [wsum] <;> omega
  · have h1 := h 1 (by omega); have h2 := h 2 (by omega)
    have : k = 0 ∨ k = 1 ∨ k = 2 := by omega
    rcases this with rfl | rfl | rfl <;> simp only [wsum] <;> omega
  · have h1 := h 1 (by omega); have h2 := h 2 (by omega); have h3 := h 3 (by omega)
    have : k = 0 ∨ k = 1 ∨ k = 2 ∨ k = 3 := by omega
    rcases this with rfl | rfl | rfl | rfl <;> simp only [wsum] <;> omega
def widl (cy : Int) : Wn := { wNew cy with pc := 0 }
def wre0 (m : Wn) : Wn := if m.pc = 0 then widl m.cy else m
def wmk (g : Wg) (L : List Int) (m : Wn) : List Int × Wn := if m.pc = 0 then (L, wNew m.cy) else ((wstp g L m).1, wre0 (wstp g L m).2)
section
variable {K n : Nat} {g : Wg} {cy : Int} {L0 L L' : List Int} {T T' : Int} {F F' : Int → Nat} {PD PD' : Int → Bool} {Ts Ts' : Nat → Int} {Qs Qs' : Nat → List Int} {M : Nat → Wn} {m m' : Wn} {k : Nat}
def cK (K : Nat) : Int := if K = 1 then 0 else 3
theorem wre0_pc (m : Wn) : (wre0 m).pc = m.pc := by
  unfold wre0; split
  · rename_i e; rw [e]; rfl
  · rfl
theorem wre0_no (h : m.pc ≠ 0) : wre0 m = m := by unfold wre0; rw [if_neg h]
theorem wstp_part (g : Wg) (L : List Int) (m : Wn) (h : 3 ≤ m.pc) : (wstp g L m).2.part = m.part := by
  unfold wstp wgo wq
  rw [if_neg (by omega), if_neg (by omega)]
  repeat' (first | rfl | split)
def wev (g : Wg) (L : List Int) (m : Wn) : Int × Int := if m.pc = 0 then (0, 0) else ((wstp g L m).2.ek, (wstp g L m).2.ea)
end
end Go.Proofs.YthoiaffeenhfgaaGreat

namespace Go.Proofs.YthoiaffeenhfgaaGreat
open Go.RowKit
set_option linter.unusedVariables false
set_option linter.unusedSimpArgs false
set_option maxRecDepth 100000
open Lay (plcc plc shOf nodesN OkC Cfg Norm firstV Rep lenL partsC)
structure MA (B S D N : Nat) (c : Cfg) (w0 w : World) (G : Nat → Prop) (K : Nat) (X : Nat → Nat) (M : Nat → Mk) (L : List Int) (k : Int) : Prop where
  po : PO B S D N c w0 w L k
  ma : ∃ O Dp : Nat → Nat → Prop, (∀ i, i < K → MKM w (X i) (O i) (Dp i) c N (M i)) ∧ (∀ i j, i < K → j < K → i ≠ j → ∀ b, O i b → ¬ Dp j b) ∧ (∀ i, i < K → ∀ b, Dp i b → B ≤ b ∧ b ≠ S ∧ b ≠ D ∧ b ≠ N ∧ ¬ G b)
  g : ∀ b, G b → b < w.heap.size ∧ B ≤ b ∧ b ≠ S ∧ b ≠ D ∧ b ≠ N
section
variable {B S D N : Nat} {c : Cfg} {w0 w w' : World} {G : Nat → Prop} {K : Nat} {X : Nat → Nat} {M : Nat → Mk} {L : List Int} {k t : Int} {i : Nat}
theorem MA.below (h : MA B S D N c w0 w G K X M L k) (hb : Below w.heap.size w w') : MA B S D N c w0 w' G K X M L k := by
  obtain ⟨O, Dp, a, d, e⟩ := h.ma
  exact ⟨h.po.step hb, ⟨O, Dp, fun i hi => (a i hi).below hb, d, e⟩, fun b hb' => by have := h.g b hb'; have := hb.size; exact ⟨by omega, (h.g b hb').2⟩⟩
theorem MA.more (h : MA B S D N c w0 w G K X M L k) {k' : Int} (hk : k ≤ k') : MA B S D N c w0 w G K X M L k' := ⟨h.po.more hk, h.ma, h.g⟩
theorem MA.ev (h : MA B S D N c w0 w G K X M L k) (hi : i < K) : Calls Tryz.prog 16 #[ptr (X i)] w fun a w' => a = .returned (evV (M i).ek (M i).ea (M i).eb) ∧ Below w.heap.size w w' := by
  obtain ⟨O, Dp, a, _⟩ := h.ma
  exact (a i hi).event
theorem MA.bag (h : MA B S D N c w0 w G K X M L k) (hi : i < K) : Calls Tryz.prog 17 #[ptr (X i)] w fun a w' => a = .returned (bgV (M i).bag.p (M i).bag.t (M i).bag.n) ∧ Below w.heap.size w w' := by
  obtain ⟨O, Dp, a, _⟩ := h.ma
  exact (a i hi).bag
theorem MA.doing (h : MA B S D N c w0 w G K X M L k) (hi : i < K) : Calls Tryz.prog 15 #[ptr (X i)] w fun a w' => a = .returned (.int .i64 (M i).dg) ∧ w = w' := by
  obtain ⟨O, Dp, a, _⟩ := h.ma
  exact (a i hi).doing
theorem MA.task (h : MA B S D N c w0 w G K X M L k) (hi : i < K) : Calls Tryz.prog 14 #[ptr (X i)] w fun a w' => a = .returned (.tuple #[.int .u64 (M i).tk, .bool (M i).hs]) ∧ Below w.heap.size w w' := by
  obtain ⟨O, Dp, a, _⟩ := h.ma
  exact (a i hi).task
theorem MA.left (h : MA B S D N c w0 w G K X M L k) {k' : Int} {L' : List Int} (hp : PO B S D N c w0 w' L' k') (u : UF (fun b => b = S ∨ b = D) w w') : MA B S D N c w0 w' G K X M L' k' := by
  obtain ⟨O, Dp, a, d, e⟩ := h.ma
  refine ⟨hp, ⟨O, Dp, fun i hi => (a i hi).keep u.size fun q hq => u.block q ((a i hi).ins.2.2 q hq) (fun x => ?_), d, e⟩, fun b hb => ⟨Nat.lt_of_lt_of_le (h.g b hb).1 u.size, (h.g b hb).2⟩⟩
  obtain ⟨_, f1, f2, _⟩ := e i hi q hq
  rcases x with x | x
  · exact f1 x
  · exact f2 x
theorem MA.row (h : MA B S D N c w0 w G K X M L k) (u : UF G w w') : MA B S D N c w0 w' G K X M L k := by
  obtain ⟨O, Dp, a, d, e⟩ := h.ma
  have hl := h.po.lt
  refine ⟨h.po.uf u (fun x => (h.g S x).2.2.1 rfl) (fun x => (h.g D x).2.2.2.1 rfl) (fun x => (h.g N x).2.2.2.2 rfl) (fun b hb => (h.g b hb).2.1), ⟨O, Dp, fun i hi => (a i hi).keep u.size fun q hq => u.block q ((a i hi).ins.2.2 q hq) (e i hi q hq).2.2.2.2, d, e⟩, fun b hb => ⟨Nat.lt_of_lt_of_le (h.g b hb).1 u.size, (h.g b hb).2⟩⟩
theorem MA.grow (h : MA B S D N c w0 w G K X M L k) (hb : Below w.heap.size w w') {G' : Nat → Prop} (hG : ∀ b, G' b → G b ∨ (w.heap.size ≤ b ∧ b < w'.heap.size)) : MA B S D N c w0 w' G' K X M L k := by
  have hl := h.po.lt
  have hB := h.po.lo
  have hbe := h.po.bel.size
  obtain ⟨O, Dp, a, d, e⟩ := h.ma
  refine ⟨h.po.step hb, ⟨O, Dp, fun i hi => (a i hi).below hb, d, fun i hi b hb' => ?_⟩, fun b hb' => ?_⟩
  · obtain ⟨e1, e2, e3, e4, e5⟩ := e i hi b hb'
    refine ⟨e1, e2, e3, e4, fun x => ?_⟩
    rcases hG b x with y | y
    · exact e5 y
    · have := (a i hi).ins.2.2 b hb'; omega
  · rcases hG b hb' with y | y
    · have := h.g b y; have := hb.size; exact ⟨by omega, (h.g b y).2⟩
    · exact ⟨y.2, by omega, by omega, by omega, by omega⟩
theorem MA.step (h : MA B S D N c w0 w G K X M L k) (hi : i < K) (wm : MW c t (M i)) (dr : Int) (hk : k ≤ 800000000) (ht : t ≤ 800000000) (hd : -9223372036854775808 ≤ dr ∧ dr ≤ 9223372036854775807) :
    Calls Tryz.prog 13 #[ptr (X i), ptr S, .int .i64 dr] w fun e w' => e = .returned (.tuple #[]) ∧ MA B S D N c w0 w' G K X (fset M i (mstp c L dr (M i)).2) (mstp c L dr (M i)).1 (k + 1) ∧ w.heap.size ≤ w'.heap.size ∧ ∀ b, G b → w'.heap[b]? = w.heap[b]? := by
  obtain ⟨cc, h0, h1, hs⟩ := h.po.st
  obtain ⟨O, Dp, hm, hd2, hf⟩ := h.ma
  have hl := h.po.lt
  have hB := h.po.lo
  have hbe := h.po.bel.size
  have hp := hm i hi
  have fN := hf i hi
  refine (step_mk h.po.ok hp hs h.po.mp (fun e => (fN S e).2.1 rfl) (fun e => (fN D e).2.2.1 rfl) (fun e => (fN N (hp.ins.2.1 N e)).2.2.2.1 rfl) h.po.ns.1 h.po.ns.2 wm h.po.ww h0 (by omega) (by omega) dr).mono ?_
  rintro e w' ⟨rfl, ⟨O', D', hp', ho', hd'⟩, hs', u⟩
  have fO : ∀ b, O i b → B ≤ b ∧ b ≠ S ∧ b ≠ D ∧ b ≠ N ∧ ¬ G b := fun b hb => fN b (hp.ins.2.1 b hb)
  have kp : ∀ b, b < w.heap.size → b ≠ S → b ≠ D → ¬ O i b → w'.heap[b]? = w.heap[b]? := fun b hb e1 e2 e3 => u.block b hb (by rintro (x | x | x); exact e1 x; exact e2 x; exact e3 x)
  refine ⟨rfl, ⟨⟨⟨cc + 1, by omega, by omega, hs'⟩, IsMap_same h.po.mp u.size (kp N hl.2.2 (fun e => h.po.ns.1 e) (fun e => h.po.ns.2 e) (fun e => (fO N e).2.2.2.1 rfl)), h.po.ok, h.po.ns, h.po.lo, (wm.step h.po.ok h.po.ww hd).2, below_uf h.po.bel h.po.lo.2.2 u (fun b hb => ?_)⟩, ⟨fset O i O', fset Dp i D', fun j hj => ?_, fun a b ha hb hab x hx hy => ?_, fun j hj b hb => ?_⟩, fun b hb => ?_⟩, u.size, fun b hb => ?_⟩
  · rcases hb with hb | hb | hb
    · omega
    · omega
    · exact (fO b hb).1
  · by_cases e : j = i
    · subst e; rw [fset_same, fset_same, fset_same]; exact hp'
    · rw [fset_other _ e, fset_other _ e, fset_other _ e]
      refine (hm j hj).keep u.size fun q hq => kp q ((hm j hj).ins.2.2 q hq) (hf j hj q hq).2.1 (hf j hj q hq).2.2.1 (fun x => hd2 i j hi hj (Ne.symm e) q x hq)
  · by_cases e : a = i
    · have eb : b ≠ i := fun e2 => hab (e.trans e2.symm)
      subst e
      rw [fset_same] at hx; rw [fset_other _ eb] at hy
      rcases ho' x hx with z | z
      · exact hd2 a b ha hb hab x z hy
      · have := (hm b hb).ins.2.2 x hy; omega
    · rw [fset_other _ e] at hx
      by_cases eb : b = i
      · subst eb
        rw [fset_same] at hy
        rcases hd' x hy with z | z
        · exact hd2 a b ha hb hab x hx z
        · have := (hm a ha).ins.2.2 x ((hm a ha).ins.2.1 x hx); omega
      · rw [fset_other _ eb] at hy; exact hd2 a b ha hb hab x hx hy
  · by_cases e : j = i
    · subst e
      rw [fset_same] at hb
      rcases hd' b hb with z | z
      · exact hf j hj b z
      · refine ⟨by omega, by omega, by omega, by omega, fun x => ?_⟩
        have := (h.g b x).1; omega
    · rw [fset_other _ e] at hb; exact hf j hj b hb
  · exact ⟨Nat.lt_of_lt_of_le (h.g b hb).1 u.size, (h.g b hb).2⟩
  · have g := h.g b hb
    exact kp b g.1 g.2.2.1 g.2.2.2.1 (fun e => (fO b e).2.2.2.2 hb)
theorem MA.start (h : PO B S D N c w0 w L k) (X : Nat → Nat) (M : Nat → Mk) : MA B S D N c w0 w (fun _ => False) 0 X M L k :=
  ⟨h, ⟨fun _ _ => False, fun _ _ => False, fun i hi => absurd hi (by omega), fun i j hi => absurd hi (by omega), fun i hi => absurd hi (by omega)⟩, fun b hb => hb.elim⟩
theorem MA.new (h : MA B S D N c w0 w G K X M L k) (i0 : Int) (hi : (Lit.int .i64 i0).wf = true) (h0 : 0 ≤ i0) (h1 : i0 < c.mr) :
    Calls Tryz.prog 12 #[Lay.mapP N, .int .i64 i0] w fun e w' => ∃ Y, e = .returned (ptr Y) ∧ MA B S D N c w0 w' G (K + 1) (fset X K Y) (fset M K (mNew c i0)) L k ∧ Below w.heap.size w w' ∧ w.heap.size ≤ Y := by
  have hl := h.po.lt
  have hB := h.po.lo
  have hbe := h.po.bel.size
  refine (newM_yes h.po.ok i0 hi h.po.mp (top_pos h.po.ok h0 h1)).mono ?_
  rintro e w' ⟨Y, rfl, hY, hm, hb⟩
  have h' := h.below hb
  obtain ⟨O, Dp, a, d, e⟩ := h.ma
  have new : MKM w' Y (fun k => k = Y) (fun k => k = Y) c N (mNew c i0) := ⟨by omega, rfl, fun k h => h, fun k e => by subst e; exact hm.lt, fnv 79 Y, .nilIface, .nilFunc, none, hm, .inl ⟨rfl, rfl⟩⟩
  refine ⟨Y, rfl, ⟨h'.po, ⟨fset O K (fun k => k = Y), fset Dp K (fun k => k = Y), fun j hj => ?_, fun x y hx hy hxy q hq hr => ?_, fun j hj q hq => ?_⟩, h'.g⟩, hb, hY⟩
  · by_cases ej : j = K
    · subst ej; rw [fset_same, fset_same, fset_same, fset_same]; exact new
    · rw [fset_other _ ej, fset_other _ ej, fset_other _ ej, fset_other _ ej]
      exact (a j (by omega)).below hb
  · by_cases ex : x = K
    · subst ex
      rw [fset_same] at hq
      rw [fset_other _ (Ne.symm hxy)] at hr
      have := (a y (by omega)).ins.2.2 q hr
      subst hq; omega
    · rw [fset_other _ ex] at hq
      by_cases ey : y = K
      · subst ey
        rw [fset_same] at hr
        have := (a x (by omega)).ins.2.2 q ((a x (by omega)).ins.2.1 q hq)
        subst hr; omega
      · rw [fset_other _ ey] at hr; exact d x y (by omega) (by omega) hxy q hq hr
  · by_cases ej : j = K
    · subst ej
      rw [fset_same] at hq
      subst hq
      refine ⟨by omega, by omega, by omega, by omega, fun x => ?_⟩
      have := (h.g q x).1; omega
    · rw [fset_other _ ej] at hq; exact e j (by omega) q hq
end
end Go.Proofs.YthoiaffeenhfgaaGreat

namespace Go.Proofs.YthoiaffeenhfgaaGreat
open Go.RowKit
set_option linter.unusedVariables false
set_option linter.unusedSimpArgs false
set_option maxRecDepth 100000
open Lay (plcc plc shOf packN nodesN OkC Cfg Norm firstV Rep lenL things)
abbrev M1 (B S D N : Nat) (c : Cfg) (w0 w : World) (G : Nat → Prop) (X : Nat) (m : Mk) (L : List Int) (k : Int) : Prop := MA B S D N c w0 w G 1 (fun _ => X) (fun _ => m) L k
section
variable {B S D N : Nat} {c : Cfg} {w0 w w' : World} {G : Nat → Prop} {K : Nat} {X : Nat → Nat} {M : Nat → Mk} {L : List Int} {k t : Int} {Y : Nat} {m : Mk}
theorem MA.congr (h : MA B S D N c w0 w G K X M L k) {X' : Nat → Nat} {M' : Nat → Mk} (e : ∀ i, i < K → X' i = X i ∧ M' i = M i) : MA B S D N c w0 w G K X' M' L k := by
  obtain ⟨O, Dp, a, d, f⟩ := h.ma
  exact ⟨h.po, ⟨O, Dp, fun i hi => by rw [(e i hi).1, (e i hi).2]; exact a i hi, d, f⟩, h.g⟩
theorem M1.new (h : PO B S D N c w0 w L k) (i0 : Int) (hi : (Lit.int .i64 i0).wf = true) (h0 : 0 ≤ i0) (h1 : i0 < c.mr) :
    Calls Tryz.prog 12 #[Lay.mapP N, .int .i64 i0] w fun e w' => ∃ Y, e = .returned (ptr Y) ∧ M1 B S D N c w0 w' (fun _ => False) Y (mNew c i0) L k ∧ Below w.heap.size w w' ∧ w.heap.size ≤ Y := by
  refine ((MA.start h (fun _ => 0) (fun _ => mNew c i0)).new i0 hi h0 h1).mono ?_
  rintro e w' ⟨Y, rfl, hm, hb, hY⟩
  exact ⟨Y, rfl, hm.congr fun i hi => by obtain rfl : i = 0 := by omega
                                         exact ⟨(fset_same _ _ _).symm, (fset_same _ _ _).symm⟩, hb, hY⟩
theorem M1.step (h : M1 B S D N c w0 w G Y m L k) (wm : MW c t m) (dr : Int) (hk : k ≤ 800000000) (ht : t ≤ 800000000) (hd : -9223372036854775808 ≤ dr ∧ dr ≤ 9223372036854775807) :
    Calls Tryz.prog 13 #[ptr Y, ptr S, .int .i64 dr] w fun e w' => e = .returned (.tuple #[]) ∧ M1 B S D N c w0 w' G Y (mstp c L dr m).2 (mstp c L dr m).1 (k + 1) ∧ w.heap.size ≤ w'.heap.size ∧ ∀ b, G b → w'.heap[b]? = w.heap[b]? := by
  refine (MA.step h (i := 0) (by omega) wm dr hk ht hd).mono ?_
  rintro e w' ⟨rfl, hm, hs, hg⟩
  exact ⟨rfl, hm.congr fun i hi => by obtain rfl : i = 0 := by omega
                                      exact ⟨rfl, (fset_same _ _ _).symm⟩, hs, hg⟩
theorem M1.put (h : M1 B S D N c w0 w G Y m L k) (at' v : Int) (hv : 0 ≤ v ∧ v ≤ 18446744073709551615) (hk : k ≤ 900000000) :
    Calls Tryz.prog 23 #[ptr S, .int .i64 at', .int .u64 v] w fun a w' => a = .returned (.tuple #[]) ∧ M1 B S D N c w0 w' G Y m (ptq L at' v) (k + 1) ∧ UF (fun b => b = S ∨ b = D) w w' := by
  refine (put_po h.po at' v hv hk).mono ?_
  rintro e w' ⟨rfl, hp, hu⟩
  exact ⟨rfl, h.left hp hu, hu⟩
theorem M1.doing (h : M1 B S D N c w0 w G Y m L k) : Calls Tryz.prog 15 #[ptr Y] w fun a w' => a = .returned (.int .i64 m.dg) ∧ w = w' := MA.doing h (i := 0) (by omega)
theorem M1.bag (h : M1 B S D N c w0 w G Y m L k) : Calls Tryz.prog 17 #[ptr Y] w fun a w' => a = .returned (bgV m.bag.p m.bag.t m.bag.n) ∧ Below w.heap.size w w' := MA.bag h (i := 0) (by omega)
theorem M1.task (h : M1 B S D N c w0 w G Y m L k) : Calls Tryz.prog 14 #[ptr Y] w fun a w' => a = .returned (.tuple #[.int .u64 m.tk, .bool m.hs]) ∧ Below w.heap.size w w' := MA.task h (i := 0) (by omega)
end
def cx : Cfg := ⟨2, 0, 0, 0, 0, 1, 1, 2, 1, 1, 1, 1⟩
theorem okx : OkC cx := by constructor <;> decide
def Lx : List Int := (things (shOf cx)).map (firstV cx)
def mx : Mk := (mstp cx Lx 0 (mNew cx 0)).2
def rx : Nat → List Int × Mk
  | 0 => (ptq Lx 0 12, mx)
  | j + 1 => mstp cx (rx j).1 0 (rx j).2
theorem rx_succ (j : Nat) : rx (j + 1) = mstp cx (rx j).1 0 (rx j).2 := rfl
theorem normx : ∀ t ∈ things (shOf cx), Norm t := by
  have : ∀ t ∈ things (shOf cx), 0 ≤ t.k ∧ t.k ≤ 18 ∧ (t.k ≤ 5 → t.a = 0) ∧ (t.k ≠ 10 → t.k ≠ 13 → t.k ≠ 18 → t.b = 0) := by decide +kernel
  exact this
theorem fstx : (mstp cx Lx 0 (mNew cx 0)).1 = Lx ∧ (mstp cx Lx 0 (mNew cx 0)).2.dg = 0 := by decide +kernel
theorem pcx : ∀ j, j < 5 → (rx (j + 1)).2.dg = 1 := by decide +kernel
theorem endx : (rx 6).2.dg = 0 ∧ (rx 6).2.hs = false ∧ (rx 6).2.bag.p = 0 ∧ (rx 6).2.bag.t = 0 ∧ (rx 6).2.bag.n = 0 := by decide +kernel
theorem newx (w : World) : Calls Tryz.prog 9 #[.agg #[.int .i64 2, .int .i64 0, .int .i64 0, .int .i64 0, .int .i64 0, .int .i64 1, .int .i64 1, .int .i64 2, .int .i64 1, .int .i64 1, .int .i64 1, .int .i64 1]] w fun r w' => ∃ N, r = .returned (.tuple #[Lay.mapP N, .int .i64 0]) ∧ Lay.IsMap w' N cx ∧ Below w.heap.size w w' := Lay.new_yes okx w
theorem phase14 (w : World) : Calls Tryz.prog 20 #[.int .u64 1, .int .i64 4] w fun e w' => e = .returned (.int .u64 12) ∧ Below w.heap.size w w' := phase_any 1 4 (by omega) (by omega) w
set_option maxHeartbeats 8000000 in
theorem awake_true (w : World) : Calls Tryz.prog 7 #[] w fun e w' => e = .returned (.bool true) ∧ Below w.heap.size w w' := by
  have HOK := Lib.hid okx
  have HRX : Hid (∀ L, Rep (shOf cx) L (firstV cx) → L = Lx) := Lib.hid (fun L h => by rw [rep_list h normx]; rfl)
  have HF := Lib.hid fstx
  go_enter Tryz.func7, Tryz.ntmps7
  go_wp2_with (first
    | (go_at_call 9; (with_reducible refine (newx _).mono ?_); rintro e w3 ⟨N, rfl, hm, hb⟩; have HM := Lib.hid hm; have HB := Lib.hid hb; clear hb hm)
    | (go_at_call 11; (with_reducible refine (first_any HOK.out N _ HM.out).mono ?_); rintro e w4 ⟨G, n, L, rfl, hn, hr, hrep, hb⟩; obtain rfl := HRX.out L hrep; have HB := Lib.hid (below_step HB.out HB.out.size hb); have HM := Lib.hid (HM.out.below hb); have HN := Lib.hid hn; have HR := Lib.hid hr; have HRE := Lib.hid hrep; have HLE := Lib.hid (first_len HOK.out hrep); clear hb hn hr hrep)
    | (go_at_call 10; (with_reducible refine (new_any _ _ _ _ _ HN.out HR.out (by have := HN.out; have := HLE.out; omega)).mono ?_); rintro e w5 hs; obtain ⟨S, D, rfl, hpo, hb⟩ := PO.start (B := w.heap.size) (w0 := w) HB.out (Nat.le_refl _) HM.out HOK.out (first_ww HOK.out HRE.out) hs; have HP0 := Lib.hid hpo; clear hs hpo hb)
    | (go_at_call 12; (with_reducible refine (M1.new HP0.out 0 (by decide) (by decide) (by decide)).mono ?_); rintro e w13 ⟨X, rfl, hx, hb, hY⟩; have HX := Lib.hid hx; clear hx hb hY)
    | (go_at_call 13; (with_reducible refine (M1.step HX.out (mw_new (c := cx) (by decide) (by decide)) 0 (by omega) (by omega) (by omega)).mono ?_); rintro e w14 ⟨rfl, hx, hs, _⟩; rw [HF.out.1] at hx; have HX1 := Lib.hid hx; clear hx hs HX)
    | (go_at_call 15; (with_reducible refine (M1.doing HX1.out).mono ?_); rintro e w15 ⟨rfl, rfl⟩; rw [HF.out.2])
    | (go_at_call 37; (with_reducible refine (Lay.phase_m HOK.out N _ HX1.out.po.mp).mono ?_); rintro r w16 ⟨rfl, hb⟩; rw [phase0]; have HX2 := Lib.hid (HX1.out.below hb); clear hb)
    | (go_at_call 20; (with_reducible refine (phase14 _).mono ?_); rintro r w17 ⟨rfl, hb⟩; have HX3 := Lib.hid (HX2.out.below hb); clear hb)
    | (go_at_call 23; (with_reducible refine (M1.put HX3.out 0 12 (by omega) (by omega)).mono ?_); rintro r w18 ⟨rfl, hx, _⟩; have HX4 : Hid (M1 w.heap.size S D N cx w w18 (fun _ => False) X (rx 0).2 (rx 0).1 (0 + 1 + 1)) := Lib.hid hx; clear hx HX1)
    | (go_at_call 13; (with_reducible refine (M1.step HX4.out ((mw_new (c := cx) (by decide) (by decide)).step HOK.out HP0.out.ww (dr := 0) (by omega)).1 0 (by omega) (by omega) (by omega)).mono ?_); rintro e w19 ⟨rfl, hx, hs, _⟩; have HX5 : Hid (M1 w.heap.size S D N cx w w19 (fun _ => False) X (rx 1).2 (rx 1).1 (0 + 1 + 1 + 1)) := Lib.hid hx; clear hx hs)
    | fail)
  have HW1 : Hid (MW cx 2 (rx 1).2) := Lib.hid ((((mw_new (c := cx) (i := 0) (by decide) (by decide)).step HOK.out HP0.out.ww (dr := 0) (by omega)).1.step HOK.out HX4.out.po.ww (dr := 0) (by omega)).1)
  go_loopw [6] (fun v wr => ∃ (j : Nat), j ≤ 5 ∧ v = .int .i64 (j : Int) ∧ M1 w.heap.size S D N cx w wr (fun _ => False) X (rx (j + 1)).2 (rx (j + 1)).1 ((j : Int) + 3) ∧ MW cx ((j : Int) + 2) (rx (j + 1)).2) (fun v _ => 20 - (intOf v).toNat)
  case atStart => exact ⟨0, by omega, rfl, HX5.out.more (by omega), HW1.out⟩
  case round =>
    obtain ⟨j, hj, rfl, hm, hw⟩ := hrel
    clear HX5 HX4 HW1
    have HM1 := Lib.hid hm; have HW := Lib.hid hw
    clear hm hw
    by_cases hlt : j < 5
    · have HJ := Lib.hid hlt
      have h9 : (j : Int) < 9 := by omega
      have HD1 : Hid ((rx (j + 1)).2.dg = 1) := Lib.hid (pcx j hlt)
      clear hlt hj
      go_wp2_with (first
        | (go_at_call 15; (with_reducible refine (M1.doing HM1.out).mono ?_); rintro e w15 ⟨rfl, rfl⟩; rw [HD1.out])
        | (go_at_call 13; (with_reducible refine (M1.step HM1.out HW.out 0 (by have := HJ.out; omega) (by have := HJ.out; omega) (by omega)).mono ?_); rintro e w19 ⟨rfl, hx, hs, _⟩; rw [← rx_succ] at hx; have HM2 := Lib.hid hx; clear hx hs)
        | fail)
      go_roundw
      case rel =>
        have hj := HJ.out
        have hw2 := (HW.out.step HOK.out HM1.out.po.ww (dr := 0) (by omega)).1
        rw [← rx_succ] at hw2
        exact ⟨j + 1, by omega, by go_num, HM2.out.more (by omega), by simpa using hw2.mono (by omega)⟩
      case measure => simp [intOf]; have := HJ.out; omega
    · obtain rfl : j = 5 := by omega
      have HE := Lib.hid endx
      clear hlt hj
      go_wp2_with (first
        | (go_at_call 15; (with_reducible refine (M1.doing HM1.out).mono ?_); rintro e w15 ⟨rfl, rfl⟩; rw [HE.out.1])
        | (go_at_call 14; (with_reducible refine (M1.task HM1.out).mono ?_); rintro e w15 ⟨rfl, hb⟩; rw [HE.out.2.1]; have HM2 := Lib.hid (HM1.out.below hb); clear hb)
        | (go_at_call 15; (with_reducible refine (M1.doing HM2.out).mono ?_); rintro e w16 ⟨rfl, rfl⟩; rw [HE.out.1])
        | (go_at_call 17; (with_reducible refine (M1.bag HM2.out).mono ?_); rintro e w17 ⟨rfl, hb⟩; rw [HE.out.2.2.1, HE.out.2.2.2.1, HE.out.2.2.2.2]; have HM3 := Lib.hid (HM2.out.below hb); clear hb)
        | fail)
      go_ret
      exact ⟨rfl, HM3.out.po.bel⟩
end Go.Proofs.YthoiaffeenhfgaaGreat
