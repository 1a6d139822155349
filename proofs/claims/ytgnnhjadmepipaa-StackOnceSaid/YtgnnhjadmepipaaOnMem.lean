/- Three machines, three lists and three bools in memory, by their numbers. -/
import Derived.Test.YtgnnhjadmepipaaGrow
import Derived.Test.YtgnnhjadmepipaaOnPu
import Derived.Test.YtgnnhjadmepipaaAlLaw
namespace Go.Proofs.Ytgnnhjadmepipaa
open Go.RowKit
set_option linter.unusedVariables false
set_option linter.unusedSimpArgs false
attribute [local irreducible] sruns

/-- A row of three. -/
def R3 (w : World) (B : Nat) (T : TypeId) (g : Nat → Value) : Prop := w.heap[B]? = some (.cells #[g 0, g 1, g 2] T (0, 0))
section
variable {w w' : World} {B : Nat} {T : TypeId} {g : Nat → Value} {k : Nat}
theorem R3.lt (h : R3 w B T g) : B < w.heap.size := (Array.getElem?_eq_some_iff.1 h).1
theorem R3.cell (h : R3 w B T g) (hk : k < 3) : w.cell? ⟨B, k, none⟩ = some (g k) := by
  have h' : w.heap[B]? = _ := h
  have key : k = 0 ∨ k = 1 ∨ k = 2 := by omega
  rcases key with rfl | rfl | rfl <;> simp [World.cell?, h']
theorem R3.fro (h : R3 w B T g) (j : Nat) : w.frozen? ⟨B, j, none⟩ = false := frozen_of_row w B j _ _ h
theorem R3.same (h : R3 w B T g) (k : w'.heap[B]? = w.heap[B]?) : R3 w' B T g := k.trans h
theorem R3.ext {g' : Nat → Value} (h : R3 w B T g) (e : ∀ j, j < 3 → g j = g' j) : R3 w B T g' := by
  unfold R3 at *; rw [h, e 0 (by omega), e 1 (by omega), e 2 (by omega)]
theorem R3.set (h : R3 w B T g) (hk : k < 3) (v : Value) : R3 (w.setCell ⟨B, k, none⟩ v) B T (upd3 g k v) := by
  have h' : w.heap[B]? = _ := h
  unfold R3
  rw [heap_setCell_same w B k _ T _ h']
  have key : k = 0 ∨ k = 1 ∨ k = 2 := by omega
  rcases key with rfl | rfl | rfl <;> simp [upd3]
theorem R3.other (h : R3 w B T g) {V : Nat} (hV : B ≠ V) (i : Nat) (v : Value) : R3 (w.setCell ⟨V, i, none⟩ v) B T g := (heap_setCell_other w ⟨V, i, none⟩ B v hV).trans h
end

/-- Where all stands. -/
structure Cn where
  S : Nat
  D : Nat
  Bx : Nat
  Ab : Nat
  WK : Nat
  PU : Nat
  HS : Nat
/-- What it holds. -/
structure Vs where
  L : List Int
  ms : Nat → Sm
  A : Nat → Nat
  hs : Nat → List Int
  vs : Nat → Value
  bs : Nat → Nat
  pu : Nat → Bool
  wv : Nat → Value
  lv : Nat → Bool
  ex : Nat
/-- Apart from what is fixed. -/
def Far (w : World) (c : Cn) (b : Nat) : Prop := Ap w.heap.size c.S c.D c.Bx c.Ab b ∧ b ≠ c.WK ∧ b ≠ c.PU ∧ b ≠ c.HS

structure SO (c : Cn) (w wr : World) (n : Int) (x : Vs) : Prop where
  ok : Ok w.heap.size c.S c.D c.Bx c.Ab w wr (upto 9) x.L n
  wk : R3 wr c.WK 31 x.wv
  pur : R3 wr c.PU 4 (fun j => .bool (x.pu j))
  hsr : R3 wr c.HS 23 x.vs
  mm : ∀ j, j < 3 → x.lv j = true → MM wr (x.A j) c.Bx (x.ms j)
  wm : ∀ j, j < 3 → Wm n (x.ms j)
  lk : ∀ j, j < 3 → (x.ms j).k.links = upto 9
  q : ∀ j, j < 3 → j ≠ x.ex → QB (x.bs j) wr (x.vs j) (x.hs j)
  apw : Ap w.heap.size c.S c.D c.Bx c.Ab c.WK ∧ Ap w.heap.size c.S c.D c.Bx c.Ab c.PU ∧ Ap w.heap.size c.S c.D c.Bx c.Ab c.HS
  apn : c.WK ≠ c.PU ∧ c.WK ≠ c.HS ∧ c.PU ≠ c.HS
  ab : ∀ j, j < 3 → Far w c (x.bs j) ∧ x.bs j < wr.heap.size
  bn : ∀ i j, i < 3 → j < 3 → i ≠ j → x.bs i ≠ x.bs j
  am : ∀ j, j < 3 → x.lv j = true → Far w c (x.A j) ∧ ∀ i, i < 3 → x.A j ≠ x.bs i
  an : ∀ i j, i < 3 → j < 3 → i ≠ j → x.lv i = true → x.lv j = true → x.A i ≠ x.A j
section
variable {c : Cn} {w wr w' : World} {n : Int} {x : Vs} {k : Nat}
theorem SO.bel (h : SO c w wr n x) : Below w.heap.size w wr := h.ok.bel
theorem SO.below (h : SO c w wr n x) (hb : Below wr.heap.size wr w') : SO c w w' n x :=
  ⟨h.ok.step hb, h.wk.same (hb.block _ h.wk.lt), h.pur.same (hb.block _ h.pur.lt), h.hsr.same (hb.block _ h.hsr.lt), fun j hj hl => (h.mm j hj hl).below hb, h.wm, h.lk, fun j hj he => (h.q j hj he).below hb, h.apw, h.apn,
   fun j hj => ⟨(h.ab j hj).1, Nat.lt_of_lt_of_le (h.ab j hj).2 hb.size⟩, h.bn, h.am, h.an⟩
theorem SO.more (h : SO c w wr n x) {m : Int} (hm : n ≤ m) : SO c w wr m x := ⟨h.ok.more hm, h.wk, h.pur, h.hsr, h.mm, fun j hj => (h.wm j hj).mono hm, h.lk, h.q, h.apw, h.apn, h.ab, h.bn, h.am, h.an⟩
/-- A block that is nobody's. -/
def Free (w wr : World) (c : Cn) (x : Vs) (b : Nat) : Prop := Far w c b ∧ (∀ j, j < 3 → b ≠ x.bs j) ∧ ∀ j, j < 3 → x.lv j = true → b ≠ x.A j
theorem SO.free (h : SO c w wr n x) {b : Nat} (hb : wr.heap.size ≤ b) : Free w wr c x b := by
  have h1 := h.wk.lt; have h2 := h.pur.lt; have h3 := h.hsr.lt
  refine ⟨⟨h.ok.new hb, by omega, by omega, by omega⟩, fun j hj => ?_, fun j hj hl => ?_⟩
  · have := (h.ab j hj).2; omega
  · have := (h.mm j hj hl).lt; omega
/-- One that is nobody's changes. -/
theorem SO.other (h : SO c w wr n x) {b : Nat} (f : Free w wr c x b) (u : Upd b b wr w') : SO c w w' n x := by
  obtain ⟨⟨f1, f2, f3, f4⟩, f5, f6⟩ := f
  exact ⟨h.ok.upd u f1, h.wk.same (u.block _ h.wk.lt (Ne.symm f2) (Ne.symm f2)), h.pur.same (u.block _ h.pur.lt (Ne.symm f3) (Ne.symm f3)), h.hsr.same (u.block _ h.hsr.lt (Ne.symm f4) (Ne.symm f4)),
    fun j hj hl => (u.block _ (h.mm j hj hl).lt (Ne.symm (f6 j hj hl)) (Ne.symm (f6 j hj hl))).trans (h.mm j hj hl), h.wm, h.lk, fun j hj he => (h.q j hj he).same (u.block _ (h.ab j hj).2 (Ne.symm (f5 j hj)) (Ne.symm (f5 j hj))), h.apw, h.apn,
    fun j hj => ⟨(h.ab j hj).1, Nat.lt_of_lt_of_le (h.ab j hj).2 u.size⟩, h.bn, h.am, h.an⟩
/-- A step of number k. -/
theorem SO.stepK (h : SO c w wr n x) (hk : k < 3) (hl : x.lv k = true) (hn : n ≤ 800000000) :
    Calls Try.prog 16 #[ptr (x.A k), ptr c.S] wr fun e w' => e = .returned (.bool (decide ((sstp x.L (x.ms k)).2.pc = 0))) ∧ SO c w w' (n + 1) { x with L := (sstp x.L (x.ms k)).1, ms := upd3 x.ms k (sstp x.L (x.ms k)).2 } := by
  obtain ⟨⟨a1, a2, a3, a4⟩, a5⟩ := h.am k hk hl
  refine (step_ok h.ok (h.mm k hk hl) a1 (h.lk k hk) (h.wm k hk) (by omega) (by omega)).mono ?_
  rintro e w1 ⟨rfl, ho, hm, u⟩
  have hw := (h.wm k hk).step h.ok.ww
  have blk : ∀ b, b < wr.heap.size → b ≠ x.A k → b ≠ c.S → b ≠ c.D → w1.heap[b]? = wr.heap[b]? := fun b hb h0 h1 h2 => u.block b hb h0 h1 h2
  refine ⟨rfl, ho, h.wk.same (blk _ h.wk.lt (Ne.symm a2) h.apw.1.2.1 h.apw.1.2.2.1), h.pur.same (blk _ h.pur.lt (Ne.symm a3) h.apw.2.1.2.1 h.apw.2.1.2.2.1), h.hsr.same (blk _ h.hsr.lt (Ne.symm a4) h.apw.2.2.2.1 h.apw.2.2.2.2.1), fun j hj hlj => ?_, fun j hj => ?_, fun j hj => ?_, fun j hj he => ?_, h.apw, h.apn, fun j hj => ⟨(h.ab j hj).1, Nat.lt_of_lt_of_le (h.ab j hj).2 u.size⟩, h.bn, h.am, h.an⟩
  · by_cases e : j = k
    · subst e; simp only [upd3_same]; exact hm
    · simp only [upd3_other _ _ e]
      have := (h.am j hj hlj).1.1
      exact (blk _ (h.mm j hj hlj).lt (h.an j k hj hk e hlj hl) this.2.1 this.2.2.1).trans (h.mm j hj hlj)
  · by_cases e : j = k
    · subst e; simp only [upd3_same]; exact hw
    · simp only [upd3_other _ _ e]; exact (h.wm j hj).mono (by omega)
  · by_cases e : j = k
    · subst e; simp only [upd3_same]; rw [sstp_k]; exact h.lk j hj
    · simp only [upd3_other _ _ e]; exact h.lk j hj
  · have := (h.ab j hj).1.1
    exact (h.q j hj he).same (blk _ (h.ab j hj).2 (Ne.symm (a5 j hj)) this.2.1 this.2.2.1)
theorem SO.itemK (h : SO c w wr n x) (hk : k < 3) (hl : x.lv k = true) : Calls Try.prog 18 #[ptr (x.A k)] wr fun a w' => a = .returned (.int .i64 (sItem (x.ms k))) ∧ wr = w' := item_any wr (h.mm k hk hl) (h.wm k hk)
/-- A machine is begun. -/
theorem SO.newK {M : Nat} {m : Sm} (h : SO c w wr n x) (hk : k < 3) (hM : wr.heap.size ≤ M) (hm : MM w' M c.Bx m) (hb : Below wr.heap.size wr w') (wm : Wm 0 m) (hn : 0 ≤ n) (lk : m.k.links = upto 9) :
    SO c w w' n { x with ms := upd3 x.ms k m, A := upd3 x.A k M, lv := upd3 x.lv k true } := by
  have f := h.free hM
  have h' := h.below hb
  refine ⟨h'.ok, h'.wk, h'.pur, h'.hsr, fun j hj hlj => ?_, fun j hj => ?_, fun j hj => ?_, h'.q, h'.apw, h'.apn, h'.ab, h'.bn, fun j hj hlj => ?_, fun i j hi hj hij hli hlj => ?_⟩
  · by_cases e : j = k
    · subst e; simp only [upd3_same]; exact hm
    · simp only [upd3_other _ _ e] at hlj ⊢; exact h'.mm j hj hlj
  · by_cases e : j = k
    · subst e; simp only [upd3_same]; exact wm.mono hn
    · simp only [upd3_other _ _ e]; exact h.wm j hj
  · by_cases e : j = k
    · subst e; simp only [upd3_same]; exact lk
    · simp only [upd3_other _ _ e]; exact h.lk j hj
  · by_cases e : j = k
    · subst e; simp only [upd3_same]; exact ⟨f.1, fun i hi => f.2.1 i hi⟩
    · simp only [upd3_other _ _ e] at hlj ⊢; exact h.am j hj hlj
  · by_cases e : i = k
    · subst e
      have e2 : j ≠ i := Ne.symm hij
      simp only [upd3_same, upd3_other _ _ e2] at hlj ⊢
      exact f.2.2 j hj hlj
    · by_cases e2 : j = k
      · subst e2
        simp only [upd3_same, upd3_other _ _ e] at hli ⊢
        exact Ne.symm (f.2.2 i hi hli)
      · simp only [upd3_other _ _ e, upd3_other _ _ e2] at hli hlj ⊢
        exact h.an i j hi hj hij hli hlj
/-- It is needed no more. -/
theorem SO.kill (h : SO c w wr n x) : SO c w wr n { x with lv := upd3 x.lv k false } := by
  have key : ∀ j, upd3 x.lv k false j = true → x.lv j = true := fun j hj => by
    unfold upd3 at hj; split at hj
    · cases hj
    · exact hj
  exact ⟨h.ok, h.wk, h.pur, h.hsr, fun j hj hl => h.mm j hj (key j hl), h.wm, h.lk, h.q, h.apw, h.apn, h.ab, h.bn, fun j hj hl => h.am j hj (key j hl), fun i j hi hj hij hl hl2 => h.an i j hi hj hij (key i hl) (key j hl2)⟩
/-- Stores into the rows. -/
theorem SO.setPU (h : SO c w wr n x) (hk : k < 3) (b : Bool) : SO c w (wr.setCell ⟨c.PU, k, none⟩ (.bool b)) n { x with pu := upd3 x.pu k b } := by
  have u := upd_set wr c.PU k (.bool b)
  refine ⟨h.ok.upd u h.apw.2.1, h.wk.other h.apn.1 _ _, (h.pur.set hk _).ext (fun j _ => by simp only [upd3]; split <;> rfl), h.hsr.other (Ne.symm h.apn.2.2) _ _, fun j hj hl => ?_, h.wm, h.lk, fun j hj he => (h.q j hj he).same (u.block _ (h.ab j hj).2 (h.ab j hj).1.2.2.1 (h.ab j hj).1.2.2.1), h.apw, h.apn, fun j hj => ⟨(h.ab j hj).1, Nat.lt_of_lt_of_le (h.ab j hj).2 u.size⟩, h.bn, h.am, h.an⟩
  have := (h.am j hj hl).1.2.2.1
  exact (u.block _ (h.mm j hj hl).lt this this).trans (h.mm j hj hl)
theorem SO.setWK (h : SO c w wr n x) (hk : k < 3) (v : Value) : SO c w (wr.setCell ⟨c.WK, k, none⟩ v) n { x with wv := upd3 x.wv k v } := by
  have u := upd_set wr c.WK k v
  refine ⟨h.ok.upd u h.apw.1, h.wk.set hk _, h.pur.other (Ne.symm h.apn.1) _ _, h.hsr.other (Ne.symm h.apn.2.1) _ _, fun j hj hl => ?_, h.wm, h.lk, fun j hj he => (h.q j hj he).same (u.block _ (h.ab j hj).2 (h.ab j hj).1.2.1 (h.ab j hj).1.2.1), h.apw, h.apn, fun j hj => ⟨(h.ab j hj).1, Nat.lt_of_lt_of_le (h.ab j hj).2 u.size⟩, h.bn, h.am, h.an⟩
  have := (h.am j hj hl).1.2.1
  exact (u.block _ (h.mm j hj hl).lt this this).trans (h.mm j hj hl)
theorem SO.setHS (h : SO c w wr n x) (hk : k < 3) (hx : x.ex = 3 ∨ x.ex = k) {v : Value} {Q : List Int} (hq : QB (x.bs k) wr v Q) : SO c w (wr.setCell ⟨c.HS, k, none⟩ v) n { x with vs := upd3 x.vs k v, hs := upd3 x.hs k Q, ex := 3 } := by
  have u := upd_set wr c.HS k v
  have keep : ∀ j, j < 3 → (wr.setCell ⟨c.HS, k, none⟩ v).heap[x.bs j]? = wr.heap[x.bs j]? := fun j hj => u.block _ (h.ab j hj).2 (h.ab j hj).1.2.2.2 (h.ab j hj).1.2.2.2
  refine ⟨h.ok.upd u h.apw.2.2, h.wk.other h.apn.2.1 _ _, h.pur.other h.apn.2.2 _ _, h.hsr.set hk _, fun j hj hl => ?_, h.wm, h.lk, fun j hj he => ?_, h.apw, h.apn, fun j hj => ⟨(h.ab j hj).1, Nat.lt_of_lt_of_le (h.ab j hj).2 u.size⟩, h.bn, h.am, h.an⟩
  · have := (h.am j hj hl).1.2.2.2
    exact (u.block _ (h.mm j hj hl).lt this this).trans (h.mm j hj hl)
  · by_cases e : j = k
    · subst e; simp only [upd3_same]; exact hq.same (keep j hj)
    · simp only [upd3_other _ _ e]
      exact (h.q j hj (by rcases hx with hx | hx <;> omega)).same (keep j hj)
/-- A list has grown. -/
theorem SO.grew {v' : Value} {Q' : List Int} (h : SO c w wr n x) (hk : k < 3) (hx : x.ex = 3) (g : Grew (some (x.bs k)) wr w' v' Q') : ∃ b, QB b w' v' Q' ∧ SO c w w' n { x with bs := upd3 x.bs k b, ex := k } := by
  obtain ⟨b, hb, hq, u⟩ := g
  have f : Far w c b ∧ (∀ j, j < 3 → j ≠ k → b ≠ x.bs j) ∧ ∀ j, j < 3 → x.lv j = true → b ≠ x.A j := by
    rcases hb with e | e
    · cases e
      exact ⟨(h.ab k hk).1, fun j hj hne => h.bn k j hk hj (Ne.symm hne), fun j hj hl => Ne.symm ((h.am j hj hl).2 k hk)⟩
    · have f := h.free e
      exact ⟨f.1, fun j hj _ => f.2.1 j hj, f.2.2⟩
  obtain ⟨⟨f1, f2, f3, f4⟩, f5, f6⟩ := f
  refine ⟨b, hq, h.ok.upd u f1, h.wk.same (u.block _ h.wk.lt (Ne.symm f2) (Ne.symm f2)), h.pur.same (u.block _ h.pur.lt (Ne.symm f3) (Ne.symm f3)), h.hsr.same (u.block _ h.hsr.lt (Ne.symm f4) (Ne.symm f4)),
    fun j hj hl => (u.block _ (h.mm j hj hl).lt (Ne.symm (f6 j hj hl)) (Ne.symm (f6 j hj hl))).trans (h.mm j hj hl), h.wm, h.lk, fun j hj he => ?_, h.apw, h.apn, fun j hj => ?_, fun i j hi hj hij => ?_, fun j hj hl => ⟨(h.am j hj hl).1, fun i hi => ?_⟩, h.an⟩
  · simp only at he
    simp only [upd3_other _ _ he]
    exact (h.q j hj (by omega)).same (u.block _ (h.ab j hj).2 (Ne.symm (f5 j hj he)) (Ne.symm (f5 j hj he)))
  · by_cases e : j = k
    · subst e; simp only [upd3_same]; exact ⟨⟨f1, f2, f3, f4⟩, hq.lt⟩
    · simp only [upd3_other _ _ e]; exact ⟨(h.ab j hj).1, Nat.lt_of_lt_of_le (h.ab j hj).2 u.size⟩
  · by_cases e : i = k
    · subst e
      simp only [upd3_same, upd3_other _ _ (Ne.symm hij)]
      exact f5 j hj (Ne.symm hij)
    · by_cases e2 : j = k
      · subst e2; simp only [upd3_same, upd3_other _ _ e]; exact Ne.symm (f5 i hi e)
      · simp only [upd3_other _ _ e, upd3_other _ _ e2]; exact h.bn i j hi hj hij
  · by_cases e : i = k
    · subst e; simp only [upd3_same]; exact Ne.symm (f6 j hj hl)
    · simp only [upd3_other _ _ e]; exact (h.am j hj hl).2 i hi
end
end Go.Proofs.Ytgnnhjadmepipaa
