/- Three packets' machines in memory, and four rows beside them. -/
import Derived.Test.YtbpfkhpnfkbacaaJ22
import Derived.Test.YtbpfkhpnfkbacaaJ5
import Derived.Test.YtbpfkhpnfkbacaaPkOp
namespace Go.Proofs.Ytbpfkhpnfkbacaa
open Go.RowKit
set_option linter.unusedVariables false
set_option linter.unusedSimpArgs false
open Lay (plcc plc shOf packN nodesN OkC Cfg Norm firstV Rep lenL things)
attribute [local irreducible] pruns

/-- A row of three. -/
def R3 (w : World) (B : Nat) (T : TypeId) (g : Nat → Value) : Prop := w.heap[B]? = some (.cells #[g 0, g 1, g 2] T (0, 0))
section
variable {w w' : World} {B : Nat} {T : TypeId} {g : Nat → Value} {k : Nat}
theorem R3.lt (h : R3 w B T g) : B < w.heap.size := (Array.getElem?_eq_some_iff.1 h).1
theorem R3.cell (h : R3 w B T g) (hk : k < 3) : w.cell? ⟨B, k, none⟩ = some (g k) := by
  have h' : w.heap[B]? = _ := h
  have key : k = 0 ∨ k = 1 ∨ k = 2 := by omega
  rcases key with rfl | rfl | rfl <;> simp [World.cell?, h']
theorem R3.fro (h : R3 w B T g) (j : Nat) : w.frozen? ⟨B, j, none⟩ = false := frozen_of_row w B j _ _ h
theorem R3.same (h : R3 w B T g) (k : w'.heap[B]? = w.heap[B]?) : R3 w' B T g := k.trans h
theorem R3.ext {g' : Nat → Value} (h : R3 w B T g) (e : ∀ j, j < 3 → g j = g' j) : R3 w B T g' := by
  unfold R3 at *; rw [h, e 0 (by omega), e 1 (by omega), e 2 (by omega)]
theorem R3.set (h : R3 w B T g) (hk : k < 3) (v : Value) : R3 (w.setCell ⟨B, k, none⟩ v) B T (upd3 g k v) := by
  have h' : w.heap[B]? = _ := h
  unfold R3
  rw [heap_setCell_same w B k _ T _ h']
  have key : k = 0 ∨ k = 1 ∨ k = 2 := by omega
  rcases key with rfl | rfl | rfl <;> simp [upd3]
end
/-- Where all stands. -/
structure Cq where
  S : Nat
  D : Nat
  N : Nat
  WK : Nat
  KD : Nat
  HS : Nat
  SE : Nat
def Fx (q : Cq) (b : Nat) : Prop := b = q.S ∨ b = q.D ∨ b = q.N ∨ b = q.WK ∨ b = q.KD ∨ b = q.HS ∨ b = q.SE
/-- What it holds. -/
structure Vq where
  L : List Int
  ms : Nat → Pm
  A : Nat → Nat
  O : Nat → Nat → Prop
  Dq : Nat → Nat → Prop
  lv : Nat → Bool
  wv : Nat → Value
  kd : Nat → Int
  hv : Nat → Int
  se : List Int
/-- Apart from each other. -/
structure Fq (B : Nat) (q : Cq) : Prop where
  lo : B ≤ q.WK ∧ B ≤ q.KD ∧ B ≤ q.HS ∧ B ≤ q.SE
  wk : q.WK ≠ q.S ∧ q.WK ≠ q.D ∧ q.WK ≠ q.N ∧ q.WK ≠ q.KD ∧ q.WK ≠ q.HS ∧ q.WK ≠ q.SE
  kd : q.KD ≠ q.S ∧ q.KD ≠ q.D ∧ q.KD ≠ q.N ∧ q.KD ≠ q.HS ∧ q.KD ≠ q.SE
  hs : q.HS ≠ q.S ∧ q.HS ≠ q.D ∧ q.HS ≠ q.N ∧ q.HS ≠ q.SE
  se : q.SE ≠ q.S ∧ q.SE ≠ q.D ∧ q.SE ≠ q.N
structure SQ (q : Cq) (c : Cfg) (B : Nat) (w0 wr : World) (kk : Int) (x : Vq) : Prop where
  po : PO B q.S q.D q.N c w0 wr x.L kk
  wk : R3 wr q.WK 37 x.wv
  kd : R3 wr q.KD 3 (fun j => .int .i64 (x.kd j))
  hs : R3 wr q.HS 3 (fun j => .int .i64 (x.hv j))
  se : wr.heap[q.SE]? = some (.cells (ints .i64 x.se).toArray 3 (0, 0))
  fx : Fq B q
  mm : ∀ j, j < 3 → x.lv j = true → PKM wr (x.A j) (x.O j) (x.Dq j) c q.N (x.ms j)
  pw : ∀ j, j < 3 → PW c kk (x.ms j)
  ap : ∀ j, j < 3 → x.lv j = true → ∀ b, x.Dq j b → B ≤ b ∧ ¬ Fx q b
  aq : ∀ i j, i < 3 → j < 3 → i ≠ j → x.lv i = true → x.lv j = true → ∀ b, x.O i b → ¬ x.Dq j b
section
variable {q : Cq} {c : Cfg} {B : Nat} {w0 wr w' : World} {kk kk' : Int} {x : Vq} {k : Nat} {L' : List Int}
theorem SQ.re {wv' : Nat → Value} {kd' hv' : Nat → Int} {se' : List Int} (h : SQ q c B w0 wr kk x) (po' : PO B q.S q.D q.N c w0 w' L' kk') (hk : kk ≤ kk') (hs : wr.heap.size ≤ w'.heap.size)
    (k1 : R3 w' q.WK 37 wv') (k2 : R3 w' q.KD 3 (fun j => .int .i64 (kd' j))) (k3 : R3 w' q.HS 3 (fun j => .int .i64 (hv' j))) (k4 : w'.heap[q.SE]? = some (.cells (ints .i64 se').toArray 3 (0, 0)))
    (k5 : ∀ j, j < 3 → x.lv j = true → ∀ b, x.Dq j b → w'.heap[b]? = wr.heap[b]?) : SQ q c B w0 w' kk' { x with L := L', wv := wv', kd := kd', hv := hv', se := se' } :=
  ⟨po', k1, k2, k3, k4, h.fx, fun j hj hl => (h.mm j hj hl).keep hs (k5 j hj hl), fun j hj => (h.pw j hj).mono hk, h.ap, h.aq⟩
theorem SQ.below (h : SQ q c B w0 wr kk x) (hb : Below wr.heap.size wr w') : SQ q c B w0 w' kk x :=
  h.re (h.po.step hb) (Int.le_refl _) hb.size (h.wk.same (hb.block _ h.wk.lt)) (h.kd.same (hb.block _ h.kd.lt)) (h.hs.same (hb.block _ h.hs.lt)) ((hb.block _ (Array.getElem?_eq_some_iff.1 h.se).1).trans h.se) (fun j hj hl b hd => hb.block b ((h.mm j hj hl).ins.2.2 b hd))
theorem SQ.drew (h : SQ q c B w0 wr kk x) : SQ q c B w0 wr.drew kk x := h.below (Below.refl _ _).drew
theorem SQ.more (h : SQ q c B w0 wr kk x) (hk : kk ≤ kk') : SQ q c B w0 wr kk' x := h.re (h.po.more hk) hk (Nat.le_refl _) h.wk h.kd h.hs h.se (fun _ _ _ _ _ => rfl)
/-- A load. -/
theorem SQ.load (h : SQ q c B w0 wr kk x) (a : Int) (hk : kk ≤ 900000000) : Calls Try.prog 24 #[ptr q.S, .int .i64 a] wr fun e w' => e = .returned (.int .u64 (ldq x.L a)) ∧ SQ q c B w0 w' (kk + 1) x :=
  (load_po h.po a hk).mono fun _ w' ⟨h1, h2, u⟩ => by
    have f := h.fx
    have bl : ∀ b, b < wr.heap.size → b ≠ q.S → b ≠ q.D → w'.heap[b]? = wr.heap[b]? := fun b hb n1 n2 => u.block b hb (fun e => by rcases e with e | e; exact n1 e; exact n2 e)
    exact ⟨h1, h.re h2 (by omega) u.size (h.wk.same (bl _ h.wk.lt f.wk.1 f.wk.2.1)) (h.kd.same (bl _ h.kd.lt f.kd.1 f.kd.2.1)) (h.hs.same (bl _ h.hs.lt f.hs.1 f.hs.2.1)) ((bl _ (Array.getElem?_eq_some_iff.1 h.se).1 f.se.1 f.se.2.1).trans h.se)
      (fun j hj hl b hd => bl b ((h.mm j hj hl).ins.2.2 b hd) (fun e => (h.ap j hj hl b hd).2 (.inl e)) (fun e => (h.ap j hj hl b hd).2 (.inr (.inl e))))⟩
/-- A step of number k. -/
theorem SQ.stepK (h : SQ q c B w0 wr kk x) (hk : k < 3) (hl : x.lv k = true) (h1 : kk ≤ 800000000) :
    Calls Try.prog 27 #[ptr (x.A k), ptr q.S] wr fun e w' => e = .returned (.bool (decide ((pstp (gOf c) x.L (x.ms k)).2.pc = 0))) ∧
      ∃ O' D', SQ q c B w0 w' (kk + 1) { x with L := (pstp (gOf c) x.L (x.ms k)).1, ms := upd3 x.ms k (pstp (gOf c) x.L (x.ms k)).2, O := upd3 x.O k O', Dq := upd3 x.Dq k D' } := by
  obtain ⟨cc, c0, c1, hs⟩ := h.po.st
  have f := h.fx
  have hap := h.ap k hk hl
  have hins := (h.mm k hk hl).ins
  refine (step_pk h.po.ok (h.mm k hk hl) hs h.po.mp (fun hd => (hap _ hd).2 (.inl rfl)) (fun hd => (hap _ hd).2 (.inr (.inl rfl))) (fun ho => (hap _ (hins.2.1 _ ho)).2 (.inr (.inr (.inl rfl)))) h.po.ns.1 h.po.ns.2 (h.pw k hk) h.po.ww c0 (by omega) (by omega)).mono ?_
  rintro e w1 ⟨rfl, ⟨O', D', hp', ho', hd'⟩, hs', u⟩
  have hlt := h.po.lt
  have hO : ∀ b, x.O k b → B ≤ b ∧ ¬ Fx q b := fun b hb => hap b (hins.2.1 b hb)
  have bl : ∀ b, b < wr.heap.size → b ≠ q.S → b ≠ q.D → ¬ x.O k b → w1.heap[b]? = wr.heap[b]? := fun b hb n1 n2 n3 => u.block b hb (fun e => by rcases e with e | e | e; exact n1 e; exact n2 e; exact n3 e)
  have nf : ∀ b, Fx q b → ¬ x.O k b := fun b hf ho => (hO b ho).2 hf
  have pw' := (h.pw k hk).step h.po.ww
  have po' : PO B q.S q.D q.N c w0 w1 (pstp (gOf c) x.L (x.ms k)).1 (kk + 1) := by
    refine ⟨⟨pcost (x.ms k) cc, ?_, ?_, hs'⟩, IsMap_same h.po.mp u.size (bl _ hlt.2.2 h.po.ns.1 h.po.ns.2 (nf _ (.inr (.inr (.inl rfl))))), h.po.ok, h.po.ns, h.po.lo, pw'.2, below_uf h.po.bel h.po.lo.2.2 u (fun b hb => ?_)⟩
    · unfold pcost; split <;> omega
    · unfold pcost; split <;> omega
    · rcases hb with rfl | rfl | hb
      · exact h.po.lo.1
      · exact h.po.lo.2.1
      · exact (hO b hb).1
  have hsz := h.po.bel.size
  have hB := h.po.lo.2.2
  have hD' : ∀ b, D' b → B ≤ b ∧ ¬ Fx q b := fun b hb => by
    rcases hd' b hb with a | a
    · exact hap b a
    · refine ⟨by omega, fun hf => ?_⟩
      have l1 := h.wk.lt; have l2 := h.kd.lt; have l3 := h.hs.lt; have l4 := (Array.getElem?_eq_some_iff.1 h.se).1
      rcases hf with e | e | e | e | e | e | e <;> omega
  refine ⟨rfl, O', D', po', h.wk.same (bl _ h.wk.lt f.wk.1 f.wk.2.1 (nf _ (.inr (.inr (.inr (.inl rfl)))))), h.kd.same (bl _ h.kd.lt f.kd.1 f.kd.2.1 (nf _ (.inr (.inr (.inr (.inr (.inl rfl))))))), h.hs.same (bl _ h.hs.lt f.hs.1 f.hs.2.1 (nf _ (.inr (.inr (.inr (.inr (.inr (.inl rfl)))))))), (bl _ (Array.getElem?_eq_some_iff.1 h.se).1 f.se.1 f.se.2.1 (nf _ (.inr (.inr (.inr (.inr (.inr (.inr rfl)))))))).trans h.se, f, fun j hj hlj => ?_, fun j hj => ?_, fun j hj hlj b hb => ?_, fun i j hi hj hij hli hlj b hob => ?_⟩
  · by_cases e : j = k
    · subst e; simp only [upd3_same]; exact hp'
    · simp only [upd3_other _ _ e]
      have a := h.ap j hj hlj
      exact (h.mm j hj hlj).keep u.size (fun b hd => bl b ((h.mm j hj hlj).ins.2.2 b hd) (fun e2 => (a b hd).2 (.inl e2)) (fun e2 => (a b hd).2 (.inr (.inl e2))) (fun ho => h.aq k j hk hj (Ne.symm e) hl hlj b ho hd))
  · by_cases e : j = k
    · subst e; simp only [upd3_same]; exact pw'.1
    · simp only [upd3_other _ _ e]; exact (h.pw j hj).mono (by omega)
  · by_cases e : j = k
    · subst e; simp only [upd3_same] at hb; exact hD' b hb
    · simp only [upd3_other _ _ e] at hb; exact h.ap j hj hlj b hb
  · by_cases e : i = k
    · subst e
      simp only [upd3_same, upd3_other _ _ (Ne.symm hij)] at hob ⊢
      intro hdj
      rcases ho' b hob with a | a
      · exact h.aq i j hi hj hij hli hlj b a hdj
      · have := (h.mm j hj hlj).ins.2.2 b hdj; omega
    · by_cases e2 : j = k
      · subst e2
        simp only [upd3_same, upd3_other _ _ e] at hob ⊢
        intro hdj
        rcases hd' b hdj with a | a
        · exact h.aq i j hi hj hij hli hlj b hob a
        · have := (h.mm i hi hli).ins; have := this.2.2 b (this.2.1 b hob); omega
      · simp only [upd3_other _ _ e, upd3_other _ _ e2] at hob ⊢
        exact h.aq i j hi hj hij hli hlj b hob
theorem SQ.packetK (h : SQ q c B w0 wr kk x) (hk : k < 3) (hl : x.lv k = true) : Calls Try.prog 28 #[ptr (x.A k)] wr fun e w' => e = .returned (.int .i64 (pPacket (x.ms k))) ∧ wr = w' :=
  packet_pk (h.mm k hk hl) (h.pw k hk)
/-- A machine is begun. -/
theorem SQ.newK {X : Nat} {O D : Nat → Prop} {m : Pm} (h : SQ q c B w0 wr kk x) (hk : k < 3) (hb : Below wr.heap.size wr w') (hp : PKM w' X O D c q.N m) (hD : ∀ b, D b → wr.heap.size ≤ b) (pw : PW c 0 m) (h0 : 0 ≤ kk) :
    SQ q c B w0 w' kk { x with ms := upd3 x.ms k m, A := upd3 x.A k X, O := upd3 x.O k O, Dq := upd3 x.Dq k D, lv := upd3 x.lv k true } := by
  have h' := h.below hb
  have hsz := h.po.bel.size
  have hB := h.po.lo.2.2
  have hlt := h.po.lt
  have l1 := h.wk.lt; have l2 := h.kd.lt; have l3 := h.hs.lt; have l4 := (Array.getElem?_eq_some_iff.1 h.se).1
  have lvo : ∀ j, j ≠ k → upd3 x.lv k true j = true → x.lv j = true := fun j hj hl => by rw [upd3_other _ _ hj] at hl; exact hl
  refine ⟨h'.po, h'.wk, h'.kd, h'.hs, h'.se, h'.fx, fun j hj hlj => ?_, fun j hj => ?_, fun j hj hlj b hd => ?_, fun i j hi hj hij hli hlj b ho => ?_⟩
  · by_cases e : j = k
    · subst e; simp only [upd3_same]; exact hp
    · simp only [upd3_other _ _ e] at hlj ⊢; exact h'.mm j hj hlj
  · by_cases e : j = k
    · subst e; simp only [upd3_same]; exact pw.mono h0
    · simp only [upd3_other _ _ e]; exact h.pw j hj
  · by_cases e : j = k
    · subst e
      simp only [upd3_same] at hd
      have := hD b hd
      exact ⟨by omega, fun hf => by rcases hf with e | e | e | e | e | e | e <;> omega⟩
    · simp only [upd3_other _ _ e] at hlj hd; exact h.ap j hj hlj b hd
  · by_cases e : i = k
    · subst e
      have hlj' := lvo j (Ne.symm hij) hlj
      simp only [upd3_same, upd3_other _ _ (Ne.symm hij)] at ho ⊢
      intro hdj
      have := hD b (hp.ins.2.1 b ho)
      have := (h.mm j hj hlj').ins.2.2 b hdj
      omega
    · have hli' := lvo i e hli
      by_cases e2 : j = k
      · subst e2
        simp only [upd3_same, upd3_other _ _ e] at ho ⊢
        intro hdj
        have := hD b hdj
        have a := (h.mm i hi hli').ins
        have := a.2.2 b (a.2.1 b ho)
        omega
      · have hlj' := lvo j e2 hlj
        simp only [upd3_other _ _ e, upd3_other _ _ e2] at ho ⊢
        exact h.aq i j hi hj hij hli' hlj' b ho
/-- It is needed no more. -/
theorem SQ.kill (h : SQ q c B w0 wr kk x) : SQ q c B w0 wr kk { x with lv := upd3 x.lv k false } := by
  have key : ∀ j, upd3 x.lv k false j = true → x.lv j = true := fun j hj => by
    unfold upd3 at hj; split at hj
    · cases hj
    · exact hj
  exact ⟨h.po, h.wk, h.kd, h.hs, h.se, h.fx, fun j hj hl => h.mm j hj (key j hl), h.pw, fun j hj hl => h.ap j hj (key j hl), fun i j hi hj hij hl hl2 => h.aq i j hi hj hij (key i hl) (key j hl2)⟩
theorem upd_set (w : World) (b i : Nat) (v : Value) : Upd b b w (w.setCell ⟨b, i, none⟩ v) := ⟨rfl, rfl, rfl, by simp, fun k hk h1 _ => heap_setCell_other w ⟨b, i, none⟩ k v h1⟩
theorem SQ.apb (h : SQ q c B w0 wr kk x) {b : Nat} (hB : B ≤ b) (n1 : b ≠ q.S) (n2 : b ≠ q.D) (n3 : b ≠ q.N) (i : Nat) (v : Value) : PO B q.S q.D q.N c w0 (wr.setCell ⟨b, i, none⟩ v) x.L kk :=
  h.po.uf (F := fun y => y = b) (UF.set wr b i v) (fun e => n1 e.symm) (fun e => n2 e.symm) (fun e => n3 e.symm) (fun y e => e ▸ hB)
theorem SQ.setWK (h : SQ q c B w0 wr kk x) (hk : k < 3) (v : Value) : SQ q c B w0 (wr.setCell ⟨q.WK, k, none⟩ v) kk { x with wv := upd3 x.wv k v } := by
  have f := h.fx
  have ot : ∀ b, b ≠ q.WK → (wr.setCell ⟨q.WK, k, none⟩ v).heap[b]? = wr.heap[b]? := fun b hb => heap_setCell_other wr ⟨q.WK, k, none⟩ b v hb
  exact h.re (h.apb f.lo.1 f.wk.1 f.wk.2.1 f.wk.2.2.1 k v) (Int.le_refl _) (by simp) (h.wk.set hk v) (h.kd.same (ot _ (Ne.symm f.wk.2.2.2.1))) (h.hs.same (ot _ (Ne.symm f.wk.2.2.2.2.1))) ((ot _ (Ne.symm f.wk.2.2.2.2.2)).trans h.se)
    (fun j hj hl b hd => ot b (fun e => (h.ap j hj hl b hd).2 (.inr (.inr (.inr (.inl e))))))
theorem SQ.setKD (h : SQ q c B w0 wr kk x) (hk : k < 3) (v : Int) : SQ q c B w0 (wr.setCell ⟨q.KD, k, none⟩ (.int .i64 v)) kk { x with kd := upd3 x.kd k v } := by
  have f := h.fx
  have ot : ∀ b, b ≠ q.KD → (wr.setCell ⟨q.KD, k, none⟩ (.int .i64 v)).heap[b]? = wr.heap[b]? := fun b hb => heap_setCell_other wr ⟨q.KD, k, none⟩ b _ hb
  exact h.re (h.apb f.lo.2.1 f.kd.1 f.kd.2.1 f.kd.2.2.1 k _) (Int.le_refl _) (by simp) (h.wk.same (ot _ f.wk.2.2.2.1)) ((h.kd.set hk _).ext (fun j _ => by simp only [upd3]; split <;> rfl)) (h.hs.same (ot _ (Ne.symm f.kd.2.2.2.1))) ((ot _ (Ne.symm f.kd.2.2.2.2)).trans h.se)
    (fun j hj hl b hd => ot b (fun e => (h.ap j hj hl b hd).2 (.inr (.inr (.inr (.inr (.inl e)))))))
theorem SQ.setHS (h : SQ q c B w0 wr kk x) (hk : k < 3) (v : Int) : SQ q c B w0 (wr.setCell ⟨q.HS, k, none⟩ (.int .i64 v)) kk { x with hv := upd3 x.hv k v } := by
  have f := h.fx
  have ot : ∀ b, b ≠ q.HS → (wr.setCell ⟨q.HS, k, none⟩ (.int .i64 v)).heap[b]? = wr.heap[b]? := fun b hb => heap_setCell_other wr ⟨q.HS, k, none⟩ b _ hb
  exact h.re (h.apb f.lo.2.2.1 f.hs.1 f.hs.2.1 f.hs.2.2.1 k _) (Int.le_refl _) (by simp) (h.wk.same (ot _ f.wk.2.2.2.2.1)) (h.kd.same (ot _ f.kd.2.2.2.1)) ((h.hs.set hk _).ext (fun j _ => by simp only [upd3]; split <;> rfl)) ((ot _ (Ne.symm f.hs.2.2.2)).trans h.se)
    (fun j hj hl b hd => ot b (fun e => (h.ap j hj hl b hd).2 (.inr (.inr (.inr (.inr (.inr (.inl e))))))))
theorem SQ.setSE (h : SQ q c B w0 wr kk x) (t : Nat) (v : Int) : SQ q c B w0 (wr.setCell ⟨q.SE, t, none⟩ (.int .i64 v)) kk { x with se := x.se.set t v } := by
  have f := h.fx
  have ot : ∀ b, b ≠ q.SE → (wr.setCell ⟨q.SE, t, none⟩ (.int .i64 v)).heap[b]? = wr.heap[b]? := fun b hb => heap_setCell_other wr ⟨q.SE, t, none⟩ b _ hb
  refine h.re (h.apb f.lo.2.2.2 f.se.1 f.se.2.1 f.se.2.2 t _) (Int.le_refl _) (by simp) (h.wk.same (ot _ f.wk.2.2.2.2.2)) (h.kd.same (ot _ f.kd.2.2.2.2)) (h.hs.same (ot _ f.hs.2.2.2)) ?_
    (fun j hj hl b hd => ot b (fun e => (h.ap j hj hl b hd).2 (.inr (.inr (.inr (.inr (.inr (.inr e))))))))
  rw [heap_setCell_same wr q.SE t _ 3 _ h.se]
  unfold ints
  rw [List.map_set]; simp
theorem SQ.seen (h : SQ q c B w0 wr kk x) (t : Nat) (ht : t < x.se.length) : wr.cell? ⟨q.SE, t, none⟩ = some (.int .i64 (x.se.getD t 0)) ∧ wr.frozen? ⟨q.SE, t, none⟩ = false := by
  refine ⟨?_, frozen_of_row wr q.SE t _ _ h.se⟩
  simp only [World.cell?, h.se]
  simp [ints, List.getD, List.getElem?_eq_getElem ht]
end
end Go.Proofs.Ytbpfkhpnfkbacaa
