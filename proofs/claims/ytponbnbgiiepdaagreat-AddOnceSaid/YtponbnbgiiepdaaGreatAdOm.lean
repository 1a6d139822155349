/- Two markers' machines in memory, and two rows beside them. -/
import Derived.Test.YtponbnbgiiepdaaGreatAdOp
import Derived.Test.YtponbnbgiiepdaaGreatJ24
namespace Go.Proofs.YtponbnbgiiepdaaGreat
open Go.RowKit
set_option linter.unusedVariables false
set_option linter.unusedSimpArgs false
set_option maxRecDepth 100000
open Lay (plcc plc shOf packN nodesN OkC Cfg Norm firstV Rep lenL things)

/-- A row of two. -/
def R2 (w : World) (B : Nat) (T : TypeId) (g : Nat → Value) : Prop := w.heap[B]? = some (.cells #[g 0, g 1] T (0, 0))
section
variable {w w' : World} {B : Nat} {T : TypeId} {g : Nat → Value} {k : Nat}
theorem R2.lt (h : R2 w B T g) : B < w.heap.size := (Array.getElem?_eq_some_iff.1 h).1
theorem R2.cell (h : R2 w B T g) (hk : k < 2) : w.cell? ⟨B, k, none⟩ = some (g k) := by
  have h' : w.heap[B]? = _ := h
  have key : k = 0 ∨ k = 1 := by omega
  rcases key with rfl | rfl <;> simp [World.cell?, h']
theorem R2.fro (h : R2 w B T g) (j : Nat) : w.frozen? ⟨B, j, none⟩ = false := frozen_of_row w B j _ _ h
theorem R2.same (h : R2 w B T g) (k : w'.heap[B]? = w.heap[B]?) : R2 w' B T g := k.trans h
theorem R2.ext {g' : Nat → Value} (h : R2 w B T g) (e : ∀ j, j < 2 → g j = g' j) : R2 w B T g' := by
  unfold R2 at *; rw [h, e 0 (by omega), e 1 (by omega)]
theorem R2.set (h : R2 w B T g) (hk : k < 2) (v : Value) : R2 (w.setCell ⟨B, k, none⟩ v) B T (upd2 g k v) := by
  have h' : w.heap[B]? = _ := h
  unfold R2
  rw [heap_setCell_same w B k _ T _ h']
  have key : k = 0 ∨ k = 1 := by omega
  rcases key with rfl | rfl <;> simp [upd2]
end
/-- Where all stands. -/
structure Ca where
  S : Nat
  D : Nat
  N : Nat
  WK : Nat
  LF : Nat
def Fa (q : Ca) (b : Nat) : Prop := b = q.S ∨ b = q.D ∨ b = q.N ∨ b = q.WK ∨ b = q.LF
/-- What it holds. -/
structure Va where
  L : List Int
  ms : Nat → Am
  A : Nat → Nat
  O : Nat → Nat → Prop
  Dq : Nat → Nat → Prop
  lv : Nat → Bool
  wv : Nat → Value
  la : Nat → Int
/-- Apart from each other. -/
structure Fb (B : Nat) (q : Ca) : Prop where
  lo : B ≤ q.WK ∧ B ≤ q.LF
  wk : q.WK ≠ q.S ∧ q.WK ≠ q.D ∧ q.WK ≠ q.N ∧ q.WK ≠ q.LF
  lf : q.LF ≠ q.S ∧ q.LF ≠ q.D ∧ q.LF ≠ q.N
structure SA (q : Ca) (c : Cfg) (B : Nat) (w0 wr : World) (kk : Int) (x : Va) : Prop where
  po : PO B q.S q.D q.N c w0 wr x.L kk
  wk : R2 wr q.WK 44 x.wv
  lf : R2 wr q.LF 3 (fun j => .int .i64 (x.la j))
  fx : Fb B q
  mm : ∀ j, j < 2 → x.lv j = true → AKM wr (x.A j) (x.O j) (x.Dq j) c q.N (x.ms j)
  pw : ∀ j, j < 2 → AW c kk (x.ms j)
  ap : ∀ j, j < 2 → x.lv j = true → ∀ b, x.Dq j b → B ≤ b ∧ ¬ Fa q b
  aq : ∀ i j, i < 2 → j < 2 → i ≠ j → x.lv i = true → x.lv j = true → ∀ b, x.O i b → ¬ x.Dq j b
section
variable {q : Ca} {c : Cfg} {B : Nat} {w0 wr w' : World} {kk kk' : Int} {x : Va} {k : Nat} {L' : List Int}
theorem SA.re {wv' : Nat → Value} {la' : Nat → Int} (h : SA q c B w0 wr kk x) (po' : PO B q.S q.D q.N c w0 w' L' kk') (hk : kk ≤ kk') (hs : wr.heap.size ≤ w'.heap.size)
    (k1 : R2 w' q.WK 44 wv') (k2 : R2 w' q.LF 3 (fun j => .int .i64 (la' j)))
    (k5 : ∀ j, j < 2 → x.lv j = true → ∀ b, x.Dq j b → w'.heap[b]? = wr.heap[b]?) : SA q c B w0 w' kk' { x with L := L', wv := wv', la := la' } :=
  ⟨po', k1, k2, h.fx, fun j hj hl => (h.mm j hj hl).keep hs (k5 j hj hl), fun j hj => (h.pw j hj).mono hk, h.ap, h.aq⟩
theorem SA.below (h : SA q c B w0 wr kk x) (hb : Below wr.heap.size wr w') : SA q c B w0 w' kk x :=
  h.re (h.po.step hb) (Int.le_refl _) hb.size (h.wk.same (hb.block _ h.wk.lt)) (h.lf.same (hb.block _ h.lf.lt)) (fun j hj hl b hd => hb.block b ((h.mm j hj hl).ins.2.2 b hd))
theorem SA.drew (h : SA q c B w0 wr kk x) : SA q c B w0 wr.drew kk x := h.below (Below.refl _ _).drew
theorem SA.more (h : SA q c B w0 wr kk x) (hk : kk ≤ kk') : SA q c B w0 wr kk' x := h.re (h.po.more hk) hk (Nat.le_refl _) h.wk h.lf (fun _ _ _ _ _ => rfl)
/-- A step of number k. -/
theorem SA.stepK (h : SA q c B w0 wr kk x) (hk : k < 2) (hl : x.lv k = true) (h1 : kk ≤ 800000000) :
    Calls Tryz.prog 20 #[ptr (x.A k), ptr q.S] wr fun e w' => e = .returned (.bool (decide ((astp (gOf c) x.L (x.ms k)).2.pc = 0))) ∧
      ∃ O' D', SA q c B w0 w' (kk + 1) { x with L := (astp (gOf c) x.L (x.ms k)).1, ms := upd2 x.ms k (astp (gOf c) x.L (x.ms k)).2, O := upd2 x.O k O', Dq := upd2 x.Dq k D' } := by
  obtain ⟨cc, c0, c1, hs⟩ := h.po.st
  have f := h.fx
  have hap := h.ap k hk hl
  have hins := (h.mm k hk hl).ins
  refine (step_ak h.po.ok (h.mm k hk hl) hs h.po.mp (fun hd => (hap _ hd).2 (.inl rfl)) (fun hd => (hap _ hd).2 (.inr (.inl rfl))) (fun ho => (hap _ (hins.2.1 _ ho)).2 (.inr (.inr (.inl rfl)))) h.po.ns.1 h.po.ns.2 (h.pw k hk) h.po.ww c0 (by omega) (by omega)).mono ?_
  rintro e w1 ⟨rfl, ⟨O', D', hp', ho', hd'⟩, hs', u⟩
  have hlt := h.po.lt
  have hO : ∀ b, x.O k b → B ≤ b ∧ ¬ Fa q b := fun b hb => hap b (hins.2.1 b hb)
  have bl : ∀ b, b < wr.heap.size → b ≠ q.S → b ≠ q.D → ¬ x.O k b → w1.heap[b]? = wr.heap[b]? := fun b hb n1 n2 n3 => u.block b hb (fun e => by rcases e with e | e | e; exact n1 e; exact n2 e; exact n3 e)
  have nf : ∀ b, Fa q b → ¬ x.O k b := fun b hf ho => (hO b ho).2 hf
  have pw' := (h.pw k hk).step h.po.ww
  have po' : PO B q.S q.D q.N c w0 w1 (astp (gOf c) x.L (x.ms k)).1 (kk + 1) := by
    refine ⟨⟨acost (x.ms k) cc, ?_, ?_, hs'⟩, IsMap_same h.po.mp u.size (bl _ hlt.2.2 h.po.ns.1 h.po.ns.2 (nf _ (.inr (.inr (.inl rfl))))), h.po.ok, h.po.ns, h.po.lo, pw'.2, below_uf h.po.bel h.po.lo.2.2 u (fun b hb => ?_)⟩
    · unfold acost; split <;> omega
    · unfold acost; split <;> omega
    · rcases hb with rfl | rfl | hb
      · exact h.po.lo.1
      · exact h.po.lo.2.1
      · exact (hO b hb).1
  have hsz := h.po.bel.size
  have hB := h.po.lo.2.2
  have hD' : ∀ b, D' b → B ≤ b ∧ ¬ Fa q b := fun b hb => by
    rcases hd' b hb with a | a
    · exact hap b a
    · refine ⟨by omega, fun hf => ?_⟩
      have l1 := h.wk.lt; have l2 := h.lf.lt
      rcases hf with e | e | e | e | e <;> omega
  refine ⟨rfl, O', D', po', h.wk.same (bl _ h.wk.lt f.wk.1 f.wk.2.1 (nf _ (.inr (.inr (.inr (.inl rfl)))))), h.lf.same (bl _ h.lf.lt f.lf.1 f.lf.2.1 (nf _ (.inr (.inr (.inr (.inr rfl)))))), f, fun j hj hlj => ?_, fun j hj => ?_, fun j hj hlj b hb => ?_, fun i j hi hj hij hli hlj b hob => ?_⟩
  · by_cases e : j = k
    · subst e; simp only [upd2_same]; exact hp'
    · simp only [upd2_other _ _ e]
      have a := h.ap j hj hlj
      exact (h.mm j hj hlj).keep u.size (fun b hd => bl b ((h.mm j hj hlj).ins.2.2 b hd) (fun e2 => (a b hd).2 (.inl e2)) (fun e2 => (a b hd).2 (.inr (.inl e2))) (fun ho => h.aq k j hk hj (Ne.symm e) hl hlj b ho hd))
  · by_cases e : j = k
    · subst e; simp only [upd2_same]; exact pw'.1
    · simp only [upd2_other _ _ e]; exact (h.pw j hj).mono (by omega)
  · by_cases e : j = k
    · subst e; simp only [upd2_same] at hb; exact hD' b hb
    · simp only [upd2_other _ _ e] at hb; exact h.ap j hj hlj b hb
  · by_cases e : i = k
    · subst e
      simp only [upd2_same, upd2_other _ _ (Ne.symm hij)] at hob ⊢
      intro hdj
      rcases ho' b hob with a | a
      · exact h.aq i j hi hj hij hli hlj b a hdj
      · have := (h.mm j hj hlj).ins.2.2 b hdj; omega
    · by_cases e2 : j = k
      · subst e2
        simp only [upd2_same, upd2_other _ _ e] at hob ⊢
        intro hdj
        rcases hd' b hdj with a | a
        · exact h.aq i j hi hj hij hli hlj b hob a
        · have := (h.mm i hi hli).ins; have := this.2.2 b (this.2.1 b hob); omega
      · simp only [upd2_other _ _ e, upd2_other _ _ e2] at hob ⊢
        exact h.aq i j hi hj hij hli hlj b hob
/-- A machine is begun. -/
theorem SA.newK {X : Nat} {O D : Nat → Prop} {m : Am} (h : SA q c B w0 wr kk x) (hk : k < 2) (hb : Below wr.heap.size wr w') (hp : AKM w' X O D c q.N m) (hD : ∀ b, D b → wr.heap.size ≤ b) (pw : AW c 0 m) (h0 : 0 ≤ kk) :
    SA q c B w0 w' kk { x with ms := upd2 x.ms k m, A := upd2 x.A k X, O := upd2 x.O k O, Dq := upd2 x.Dq k D, lv := upd2 x.lv k true } := by
  have h' := h.below hb
  have hsz := h.po.bel.size
  have hB := h.po.lo.2.2
  have hlt := h.po.lt
  have l1 := h.wk.lt; have l2 := h.lf.lt
  have lvo : ∀ j, j ≠ k → upd2 x.lv k true j = true → x.lv j = true := fun j hj hl => by rw [upd2_other _ _ hj] at hl; exact hl
  refine ⟨h'.po, h'.wk, h'.lf, h'.fx, fun j hj hlj => ?_, fun j hj => ?_, fun j hj hlj b hd => ?_, fun i j hi hj hij hli hlj b ho => ?_⟩
  · by_cases e : j = k
    · subst e; simp only [upd2_same]; exact hp
    · simp only [upd2_other _ _ e] at hlj ⊢; exact h'.mm j hj hlj
  · by_cases e : j = k
    · subst e; simp only [upd2_same]; exact pw.mono h0
    · simp only [upd2_other _ _ e]; exact h.pw j hj
  · by_cases e : j = k
    · subst e
      simp only [upd2_same] at hd
      have := hD b hd
      exact ⟨by omega, fun hf => by rcases hf with e | e | e | e | e <;> omega⟩
    · simp only [upd2_other _ _ e] at hlj hd; exact h.ap j hj hlj b hd
  · by_cases e : i = k
    · subst e
      have hlj' := lvo j (Ne.symm hij) hlj
      simp only [upd2_same, upd2_other _ _ (Ne.symm hij)] at ho ⊢
      intro hdj
      have := hD b (hp.ins.2.1 b ho)
      have := (h.mm j hj hlj').ins.2.2 b hdj
      omega
    · have hli' := lvo i e hli
      by_cases e2 : j = k
      · subst e2
        simp only [upd2_same, upd2_other _ _ e] at ho ⊢
        intro hdj
        have := hD b hdj
        have a := (h.mm i hi hli').ins
        have := a.2.2 b (a.2.1 b ho)
        omega
      · have hlj' := lvo j e2 hlj
        simp only [upd2_other _ _ e, upd2_other _ _ e2] at ho ⊢
        exact h.aq i j hi hj hij hli' hlj' b ho
/-- It is needed no more. -/
theorem SA.kill (h : SA q c B w0 wr kk x) : SA q c B w0 wr kk { x with lv := upd2 x.lv k false } := by
  have key : ∀ j, upd2 x.lv k false j = true → x.lv j = true := fun j hj => by
    unfold upd2 at hj; split at hj
    · cases hj
    · exact hj
  exact ⟨h.po, h.wk, h.lf, h.fx, fun j hj hl => h.mm j hj (key j hl), h.pw, fun j hj hl => h.ap j hj (key j hl), fun i j hi hj hij hl hl2 => h.aq i j hi hj hij (key i hl) (key j hl2)⟩
theorem SA.apb (h : SA q c B w0 wr kk x) {b : Nat} (hB : B ≤ b) (n1 : b ≠ q.S) (n2 : b ≠ q.D) (n3 : b ≠ q.N) (i : Nat) (v : Value) : PO B q.S q.D q.N c w0 (wr.setCell ⟨b, i, none⟩ v) x.L kk :=
  h.po.uf (F := fun y => y = b) (UF.set wr b i v) (fun e => n1 e.symm) (fun e => n2 e.symm) (fun e => n3 e.symm) (fun y e => e ▸ hB)
theorem SA.setWK (h : SA q c B w0 wr kk x) (hk : k < 2) (v : Value) : SA q c B w0 (wr.setCell ⟨q.WK, k, none⟩ v) kk { x with wv := upd2 x.wv k v } := by
  have f := h.fx
  have ot : ∀ b, b ≠ q.WK → (wr.setCell ⟨q.WK, k, none⟩ v).heap[b]? = wr.heap[b]? := fun b hb => heap_setCell_other wr ⟨q.WK, k, none⟩ b v hb
  exact h.re (h.apb f.lo.1 f.wk.1 f.wk.2.1 f.wk.2.2.1 k v) (Int.le_refl _) (by simp) (h.wk.set hk v) (h.lf.same (ot _ (Ne.symm f.wk.2.2.2)))
    (fun j hj hl b hd => ot b (fun e => (h.ap j hj hl b hd).2 (.inr (.inr (.inr (.inl e))))))
theorem SA.setLF (h : SA q c B w0 wr kk x) (hk : k < 2) (v : Int) : SA q c B w0 (wr.setCell ⟨q.LF, k, none⟩ (.int .i64 v)) kk { x with la := upd2 x.la k v } := by
  have f := h.fx
  have ot : ∀ b, b ≠ q.LF → (wr.setCell ⟨q.LF, k, none⟩ (.int .i64 v)).heap[b]? = wr.heap[b]? := fun b hb => heap_setCell_other wr ⟨q.LF, k, none⟩ b _ hb
  exact h.re (h.apb f.lo.2 f.lf.1 f.lf.2.1 f.lf.2.2 k _) (Int.le_refl _) (by simp) (h.wk.same (ot _ f.wk.2.2.2)) ((h.lf.set hk _).ext (fun j _ => by simp only [upd2]; split <;> rfl))
    (fun j hj hl b hd => ot b (fun e => (h.ap j hj hl b hd).2 (.inr (.inr (.inr (.inr e))))))
end

/-! What holds at the loop's head. -/
/-- What a machine's cells in the rows are. -/
structure La (x : Va) (j : Nat) : Prop where
  lv : x.lv j = decide ((x.ms j).pc ≠ 0)
  wv : x.wv j = (if x.lv j = true then ptr (x.A j) else .pointer none)
  la : 0 ≤ x.la j
def eN (c : Cfg) (k : Nat) : Dg.En := eOf c (k : Int)
/-- Where there are packets enough: what is where, and who ends when. -/
def PF (c : Cfg) (len i many : Nat) (p : Int) (L : List Int) (ms : Nat → Am) (la : Nat → Int) : Prop :=
  2 * many ≤ pkn c → ∃ A rs, AN (pkn c) (dqn c) (gOf c) (eN c) L i A ms la rs ∧ Beg p A ∧ ∀ j, j < 2 → Due2 len i j (rs j) ∨ ((ms j).pc = 0 ∧ la j = 0)
section
variable {c : Cfg} {len i many : Nat} {p : Int} {L : List Int} {ms : Nat → Am} {la : Nat → Int} {k : Nat}
theorem due_next {len i : Nat} {k j : Nat} {r : Int} (hj : j < 2) (h : Due2 len i j r) (hm : len ≤ i → i % 2 = k) : Due2 len (i + 1 : Nat) j (if j = k then r - 1 else r) := by
  by_cases hi : len ≤ i
  · have hmk := hm hi
    by_cases e : j = k
    · rw [if_pos e]
      have := due2_own hj h (by omega) (by omega)
      simpa using this
    · rw [if_neg e]
      have := due2_other hj h (by omega) (by omega)
      simpa using this
  · refine due2_start (by omega) j hj ?_
    have := h.1
    split <;> omega
theorem PF.step (h : PF c len i many p L ms la) (hk : k < 2) (hp : (ms k).pc ≠ 0) (hi : i < len + 160) (hl : len ≤ 300) (hm : len ≤ i → i % 2 = k) :
    PF c len (i + 1) many p (astp (gOf c) L (ms k)).1 (upd2 ms k (astp (gOf c) L (ms k)).2) la := fun hn => by
  obtain ⟨A, rs, ha, hb, hd⟩ := h hn
  refine ⟨A, upd2 rs k (rs k - 1), by have := ha.step hk hp (by omega); simpa using this, hb, fun j hj => ?_⟩
  rcases hd j hj with d | ⟨d1, d2⟩
  · have := due_next hj d hm
    by_cases e : j = k
    · subst e; rw [if_pos rfl] at this; rw [upd2_same]; exact .inl this
    · rw [if_neg e] at this; rw [upd2_other _ _ e]; exact .inl this
  · have e : j ≠ k := fun e => hp (e ▸ d1)
    exact .inr ⟨by rw [upd2_other _ _ e]; exact d1, d2⟩
theorem PF.skip (h : PF c len i many p L ms la) (hk : k < 2) (hp : (ms k).pc = 0) (h0 : la k = 0) (hi : i < len + 160) (hm : len ≤ i → i % 2 = k) : PF c len (i + 1) many p L ms la := fun hn => by
  obtain ⟨A, rs, ha, hb, hd⟩ := h hn
  refine ⟨A, rs, ha.more (by omega), hb, fun j hj => ?_⟩
  by_cases e : j = k
  · subst e; exact .inr ⟨hp, h0⟩
  · rcases hd j hj with d | d
    · have := due_next hj d hm
      rw [if_neg e] at this; exact .inl this
    · exact .inr d
theorem PF.new (h : PF c len i many p L ms la) (hk : k < 2) (hp : (ms k).pc = 0) (hl : 0 < la k) (p0 : 0 ≤ p) (p1 : p + 1 ≤ 2 * many) (p10 : p ≤ 10) : PF c len i many (p + 1) L (upd2 ms k (aNew (eN c k) (2 * (p + 1) + k))) (upd2 la k (la k - 1)) := fun hn => by
  obtain ⟨A, rs, ha, hb, hd⟩ := h hn
  have hlen := hb.len
  refine ⟨_, rs, ha.new hk hp hl (t := 2 * (p + 1) + k) (by omega) (by omega) (by omega), hb.cons (by omega) (by omega) p0, fun j hj => ?_⟩
  rcases hd j hj with d | ⟨d1, d2⟩
  · exact .inl d
  · have e : j ≠ k := fun e => by subst e; omega
    rw [upd2_other _ _ e, upd2_other _ _ e]
    exact .inr ⟨d1, d2⟩
theorem PF.first {c : Cfg} {L : List Int} {len many : Nat} (hc : OkC c) (hrep : Rep (shOf c) L (firstV c)) (hm : 2 ≤ c.mr) (h5 : many ≤ 5) (m : Am) (hm0 : m.pc = 0) : PF c len 0 many 0 L (fun _ => m) (fun _ => (many : Int)) := fun hn => by
  obtain ⟨Hs, Hp⟩ := stk_first hc hrep
  have G : Gp (pkn c) L.length (gOf c) := by rw [hrep.1]; exact gp_of hc
  have g0 : Dg.Ge (dqn c) L.length (eOf c 0) := by rw [hrep.1]; exact ge_of hc (by omega) (by omega)
  have g1 : Dg.Ge (dqn c) L.length (eOf c 1) := by rw [hrep.1]; exact ge_of hc (by omega) (by omega)
  have z0 := ends_first hc hrep (i := 0) (by omega) (by omega)
  have z1 := ends_first hc hrep (i := 1) (by omega) (by omega)
  have key := Aw.begin (n := pkn c) (r := dqn c) (g := gOf c) (e := eOf c 0) (f := eOf c 1) (L := L) (a := m) (b := m) (pa := 0) (pb := 1) (la := (many : Int)) (lb := (many : Int)) G Hs Hp g0 g1 ⟨z0.1, z0.2, z1.1, z1.2⟩
    (fun q h => ine_apart hc (by omega) (by omega) (by omega) (by omega) (by omega) q h) (fun q h => ine_inp hc (by omega) (by omega) q h) (fun q h => ine_inp hc (by omega) (by omega) q h) hm0 hm0 ⟨by omega, by omega⟩
  refine ⟨[], fun _ => 10 * (many : Int) + 6 * (many : Int), ?_, Beg.nil, fun j hj => .inl (due2_start (by omega) j hj (by show 10 * (many : Int) + 6 * (many : Int) ≤ 80; omega))⟩
  exact key
theorem PF.end (hc : OkC c) (h : PF c len (len + 160) many p L ms la) (h0 : la 0 = 0 ∧ la 1 = 0) (hn : 2 * many ≤ pkn c) : ∃ H Qs, AEnd c (eN c) L p H Qs := by
  obtain ⟨A, rs, ha, hb, hd⟩ := h hn
  refine ha.end hc (fun j hj => ?_) hb
  rcases hd j hj with d | d
  · by_cases e : (ms j).pc = 0
    · exact e
    · exact (due2_end (len := (len : Int)) hj (by simpa using d) (ha.left hj e)).elim
  · exact d.1
end
structure HA (q : Ca) (c : Cfg) (B : Nat) (w0 wr : World) (len i many : Nat) (p : Int) (x : Va) : Prop where
  so : SA q c B w0 wr (4 * (i : Int)) x
  pf : PF c len i many p x.L x.ms x.la
  ln : ∀ j, j < 2 → La x j
  p : p = 2 * (many : Int) - x.la 0 - x.la 1 ∧ 0 ≤ p
  my : many ≤ 5
  ii : i ≤ len + 160 ∧ len ≤ 300
  ll : x.L.length ≤ 10000
  mr : 2 ≤ c.mr
section
variable {q : Ca} {c : Cfg} {B : Nat} {w0 wr w' : World} {len i many : Nat} {p : Int} {x : Va} {k : Nat}
theorem HA.step (h : HA q c B w0 wr len i many p x) (hb : Below wr.heap.size wr w') : HA q c B w0 w' len i many p x := ⟨h.so.below hb, h.pf, h.ln, h.p, h.my, h.ii, h.ll, h.mr⟩
theorem HA.cellW (h : HA q c B w0 wr len i many p x) (hk : k < 2) : wr.cell? ⟨q.WK, k, none⟩ = some (if x.lv k = true then ptr (x.A k) else .pointer none) := by rw [h.so.wk.cell hk, (h.ln k hk).wv]
theorem HA.live (h : HA q c B w0 wr len i many p x) (hk : k < 2) (hl : x.lv k = true) : (x.ms k).pc ≠ 0 := by
  have := (h.ln k hk).lv; rw [hl] at this; simpa using this.symm
theorem HA.rest (h : HA q c B w0 wr len i many p x) (hk : k < 2) (hl : ¬ x.lv k = true) : (x.ms k).pc = 0 := by
  have := (h.ln k hk).lv
  cases hb : x.lv k with
  | true => exact absurd hb hl
  | false => rw [hb] at this; simpa using this.symm
theorem HA.bnd (h : HA q c B w0 wr len i many p x) : 0 ≤ p ∧ p ≤ 10 ∧ ∀ j, j < 2 → 0 ≤ x.la j ∧ x.la j ≤ 10 - p ∧ x.la j + p ≤ 2 * many := by
  have a := (h.ln 0 (by omega)).la
  have b := (h.ln 1 (by omega)).la
  have hp := h.p
  have hm := h.my
  refine ⟨hp.2, by omega, fun j hj => ?_⟩
  have key : j = 0 ∨ j = 1 := by omega
  rcases key with rfl | rfl <;> omega
/-- A turn of one that rests, and has no tasks. -/
theorem HA.skip (h : HA q c B w0 wr len i many p x) (hk : k < 2) (hl : ¬ x.lv k = true) (h0 : x.la k = 0) (hi : i < len + 160) (hm : len ≤ i → i % 2 = k) : HA q c B w0 wr len (i + 1) many p x :=
  ⟨h.so.more (by omega), h.pf.skip hk (h.rest hk hl) h0 hi hm, h.ln, h.p, h.my, ⟨by omega, h.ii.2⟩, h.ll, h.mr⟩
/-- One is begun. -/
theorem HA.begun {w2 : World} {A' : Nat} {O' D' : Nat → Prop} (h : HA q c B w0 wr len i many p x) (hk : k < 2) (hl : ¬ x.lv k = true) (h0 : 0 < x.la k)
    (s : SA q c B w0 w2 (4 * (i : Int)) { x with la := upd2 x.la k (x.la k - 1), ms := upd2 x.ms k (aNew (eN c k) (2 * (p + 1) + k)), A := upd2 x.A k A', O := upd2 x.O k O', Dq := upd2 x.Dq k D', lv := upd2 x.lv k true, wv := upd2 x.wv k (ptr A') }) :
    HA q c B w0 w2 len i many (p + 1) { x with la := upd2 x.la k (x.la k - 1), ms := upd2 x.ms k (aNew (eN c k) (2 * (p + 1) + k)), A := upd2 x.A k A', O := upd2 x.O k O', Dq := upd2 x.Dq k D', lv := upd2 x.lv k true, wv := upd2 x.wv k (ptr A') } := by
  obtain ⟨b0, b1, b2⟩ := h.bnd
  have bk := b2 k hk
  refine ⟨s, h.pf.new hk (h.rest hk hl) h0 b0 (by omega) b1, fun j hj => ?_, ?_, h.my, h.ii, h.ll, h.mr⟩
  · by_cases e : j = k
    · subst e
      exact ⟨by simp [upd2_same, aNew], by simp [upd2_same], by simp only [upd2_same]; omega⟩
    · have := h.ln j hj
      refine ⟨?_, ?_, ?_⟩
      · simp only [upd2_other _ _ e]; exact this.lv
      · simp only [upd2_other _ _ e]; exact this.wv
      · simp only [upd2_other _ _ e]; exact this.la
  · have hp := h.p
    have key : k = 0 ∨ k = 1 := by omega
    rcases key with rfl | rfl <;> simp [upd2] <;> omega
/-- It goes on. -/
theorem HA.on {O' D' : Nat → Prop} (h : HA q c B w0 wr len i many p x) (hk : k < 2) (hl : x.lv k = true) (hi : i < len + 160) (hm : len ≤ i → i % 2 = k)
    (s : SA q c B w0 w' (4 * (i : Int) + 1) { x with L := (astp (gOf c) x.L (x.ms k)).1, ms := upd2 x.ms k (astp (gOf c) x.L (x.ms k)).2, O := upd2 x.O k O', Dq := upd2 x.Dq k D' })
    (hp : (astp (gOf c) x.L (x.ms k)).2.pc ≠ 0) (hL : (astp (gOf c) x.L (x.ms k)).1.length = x.L.length) :
    HA q c B w0 w' len (i + 1) many p { x with L := (astp (gOf c) x.L (x.ms k)).1, ms := upd2 x.ms k (astp (gOf c) x.L (x.ms k)).2, O := upd2 x.O k O', Dq := upd2 x.Dq k D' } := by
  refine ⟨s.more (by omega), h.pf.step hk (h.live hk hl) hi h.ii.2 hm, fun j hj => ?_, h.p, h.my, ⟨by omega, h.ii.2⟩, by rw [hL]; exact h.ll, h.mr⟩
  have l := h.ln j hj
  by_cases e : j = k
  · subst e
    exact ⟨by simp only [upd2_same]; rw [hl]; simp [hp], l.wv, l.la⟩
  · exact ⟨by simp only [upd2_other _ _ e]; exact l.lv, l.wv, l.la⟩
/-- It is finished, and gone. -/
theorem HA.gone {O' D' : Nat → Prop} (h : HA q c B w0 wr len i many p x) (hk : k < 2) (hl : x.lv k = true) (hi : i < len + 160) (hm : len ≤ i → i % 2 = k)
    (s : SA q c B w0 w' (4 * (i : Int) + 1) { x with L := (astp (gOf c) x.L (x.ms k)).1, ms := upd2 x.ms k (astp (gOf c) x.L (x.ms k)).2, O := upd2 x.O k O', Dq := upd2 x.Dq k D', wv := upd2 x.wv k (.pointer none), lv := upd2 x.lv k false })
    (hp : (astp (gOf c) x.L (x.ms k)).2.pc = 0) (hL : (astp (gOf c) x.L (x.ms k)).1.length = x.L.length) :
    HA q c B w0 w' len (i + 1) many p { x with L := (astp (gOf c) x.L (x.ms k)).1, ms := upd2 x.ms k (astp (gOf c) x.L (x.ms k)).2, O := upd2 x.O k O', Dq := upd2 x.Dq k D', wv := upd2 x.wv k (.pointer none), lv := upd2 x.lv k false } := by
  refine ⟨s.more (by omega), h.pf.step hk (h.live hk hl) hi h.ii.2 hm, fun j hj => ?_, h.p, h.my, ⟨by omega, h.ii.2⟩, by rw [hL]; exact h.ll, h.mr⟩
  have l := h.ln j hj
  by_cases e : j = k
  · subst e
    exact ⟨by simp [upd2_same, hp], by simp [upd2_same], l.la⟩
  · refine ⟨?_, ?_, l.la⟩
    · simp only [upd2_other _ _ e]; exact l.lv
    · simp only [upd2_other _ _ e]; exact l.wv
end
end Go.Proofs.YtponbnbgiiepdaaGreat
