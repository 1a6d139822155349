/- A machine that puts a task somewhere, a store, and the document's own beside them. -/
import Derived.Test.YtponbnbgiiepdaaGreatJ26
import Derived.Test.YtponbnbgiiepdaaGreatJ34
namespace Go.Proofs.YtponbnbgiiepdaaGreat
open Go.RowKit
set_option linter.unusedVariables false
set_option linter.unusedSimpArgs false
set_option maxRecDepth 100000
set_option linter.unnecessarySimpa false
open Lay (plcc plc shOf packN nodesN OkC Cfg Norm firstV Rep lenL things)

/-- The document's machine, and the program's: the same, or both are finished. -/
def Twin (m mx : Am) : Prop := mx = m ∨ (mx.pc = 0 ∧ m.pc = 0 ∧ mx.sp = m.sp)
theorem Twin.pc {m mx : Am} (h : Twin m mx) : mx.pc = m.pc ∧ mx.sp = m.sp := by
  rcases h with rfl | ⟨a, b, c⟩
  · exact ⟨rfl, rfl⟩
  · exact ⟨a.trans b.symm, c⟩
theorem Twin.step {m mx : Am} (h : Twin m mx) (g : Pg) (L : List Int) : (astp g L mx).1 = (astp g L m).1 ∧ Twin (astp g L m).2 (astp g L mx).2 := by
  rcases h with rfl | ⟨a, b, c⟩
  · exact ⟨rfl, .inl rfl⟩
  · have e1 : astp g L mx = (L, mx) := by simp [astp, a]
    have e2 : astp g L m = (L, m) := by simp [astp, b]
    rw [e1, e2]; exact ⟨rfl, .inr ⟨a, b, c⟩⟩
theorem RPm.uf {P Q : Nat → Prop} {F : Nat → Prop} {w w' : World} {m : Pm} {v : Value} (h : RPm P w m v) (u : UF F w w') (hP : ∀ b, P b → b < w.heap.size → ¬ F b ∧ Q b) : RPm Q w' m v := by
  obtain ⟨T, tn, tc, A, n, cap, e, h1, h2, h3, h4, h5, h6⟩ := h
  have key : ∀ {k : IntKind} {A : Option Addr} {zs : List Int}, Reads k w A zs → (0 < zs.length → ∀ a, A = some a → P a.block) → Reads k w' A zs ∧ (0 < zs.length → ∀ a, A = some a → Q a.block) := fun {k A zs} r p => by
    refine ⟨fun h0 => ?_, fun h0 a ea => ?_⟩
    · obtain ⟨b, off, e, hlt, hc⟩ := r h0
      have := hP b (p h0 _ e) hlt
      exact ⟨b, off, e, Nat.lt_of_lt_of_le hlt u.size, fun j hj => (World.cell?_of_block (w := w) (a := ⟨b, off + j, none⟩) (u.block b hlt this.1)).trans (hc j hj)⟩
    · obtain ⟨b, off, e, hlt, hc⟩ := r h0
      have := hP b (p h0 _ e) hlt
      rw [e] at ea; cases ea; exact this.2
  exact ⟨T, tn, tc, A, n, cap, e, h1, (key h2 h5).1, h3, (key h4 h6).1, (key h2 h5).2, (key h4 h6).2⟩
theorem RAm.uf {P Q : Nat → Prop} {F : Nat → Prop} {w w' : World} {m : Am} {v : Value} (h : RAm P w m v) (u : UF F w w') (hP : ∀ b, P b → b < w.heap.size → ¬ F b ∧ Q b) : RAm Q w' m v := by
  obtain ⟨d0, d1, d2, d3, d4, d5, d6, d7, d8, d10, d9, p0, p1, p3, p4, p5, p6, p7, p9, p10, p11, p12, T, tn, tc, LA, ln, lc, e, h1, h2⟩ := h
  exact ⟨d0, d1, d2, d3, d4, d5, d6, d7, d8, d10, d9, p0, p1, p3, p4, p5, p6, p7, p9, p10, p11, p12, T, tn, tc, LA, ln, lc, e, h1, fun k => (h2 k).uf u hP⟩
/-- What it is as cells. -/
structure V27 (m : Am) (V : Array Value) : Prop where
  size : V.size = 27
  one : V.all (·.oneCell') = true
  c0 : V[0]? = some (.int .i64 m.pc)
  c26 : V[26]? = some (.bool m.sp)
theorem RAm.cells {Q : Nat → Prop} {w : World} {m : Am} {v : Value} (h : RAm Q w m v) : ∃ V, v = .agg V ∧ V27 m V := by
  obtain ⟨d0, d1, d2, d3, d4, d5, d6, d7, d8, d10, d9, p0, p1, p3, p4, p5, p6, p7, p9, p10, p11, p12, T, tn, tc, LA, ln, lc, rfl, h1, h2⟩ := h
  exact ⟨_, rfl, rfl, by simp only [List.all_toArray, List.all_cons, List.all_nil, Value.oneCell', Bool.and_self], rfl, rfl⟩
theorem rng27 {w : World} {B : Nat} {V : Array Value} {T : TypeId} (h : w.heap[B]? = some (.cells V T (0, 0))) : w.rangeAt B 0 V.toList := fun j v hv => by
  rw [cell_of_row w B (0 + j) V T _ h, Nat.zero_add]
  simpa using hv
theorem there27 {w : World} {B : Nat} {V : Array Value} {T : TypeId} (h : w.heap[B]? = some (.cells V T (0, 0))) (hs : V.size = 27) : w.there B 0 27 := fun j hj => by
  refine ⟨?_, frozen_of_row w B _ _ _ h⟩
  rw [cell_of_row w B (0 + j) V T _ h, Array.getElem?_eq_getElem (by omega)]; rfl
/-- A whole row of cells is stored. -/
theorem row_set {w : World} {B : Nat} {V U : Array Value} {T : TypeId} (h : w.heap[B]? = some (.cells V T (0, 0))) (hs : V.size = U.size) : (w.setCells B 0 U.toList).heap[B]? = some (.cells U T (0, 0)) ∧ Upd B B w (w.setCells B 0 U.toList) := by
  have key : ∀ (l : List Value) (o : Nat) (w : World) (V : Array Value), w.heap[B]? = some (.cells V T (0, 0)) → o + l.length = V.size →
      ∃ V', (w.setCells B o l).heap[B]? = some (.cells V' T (0, 0)) ∧ V'.size = V.size ∧ (∀ j, j < o → V'[j]? = V[j]?) ∧ (∀ j, j < l.length → V'[o + j]? = l[j]?) ∧ Upd B B w (w.setCells B o l) := by
    intro l
    induction l with
    | nil =>
      intro o w V h hl
      exact ⟨V, h, rfl, fun _ _ => rfl, fun j hj => by simp at hj, ⟨rfl, rfl, rfl, Nat.le_refl _, fun _ _ _ _ => rfl⟩⟩
    | cons v l ih =>
      intro o w V h hl
      simp only [List.length_cons] at hl
      have h1 := heap_setCell_same w B o _ T v h
      obtain ⟨V', g1, g2, g3, g4, g5⟩ := ih (o + 1) (w.setCell ⟨B, o, none⟩ v) (V.setIfInBounds o v) h1 (by simp; omega)
      refine ⟨V', g1, by rw [g2]; simp, fun j hj => ?_, fun j hj => ?_, ?_⟩
      · rw [g3 j (by omega), Array.getElem?_setIfInBounds_ne (by omega)]
      · cases j with
        | zero =>
          have ho : o < V.size := by omega
          rw [Nat.add_zero, g3 o (by omega)]; simp [ho]
        | succ j =>
          have := g4 j (by simp at hj; omega)
          rw [show o + (j + 1) = o + 1 + j by omega, this]; simp
      · have u1 : Upd B B w (w.setCell ⟨B, o, none⟩ v) := ⟨rfl, rfl, rfl, by simp, fun k hk h1 _ => heap_setCell_other w ⟨B, o, none⟩ k v h1⟩
        exact ⟨g5.os.trans u1.os, g5.tape.trans u1.tape, g5.output.trans u1.output, Nat.le_trans u1.size g5.size, fun k hk a b => (g5.block k (Nat.lt_of_lt_of_le hk u1.size) a b).trans (u1.block k hk a b)⟩
  obtain ⟨V', g1, g2, _, g4, g5⟩ := key U.toList 0 w V h (by simp [hs])
  refine ⟨?_, g5⟩
  rw [g1]
  have e : V' = U := by
    apply Array.ext_getElem?
    intro j
    by_cases hj : j < U.size
    · have := g4 j (by simpa using hj)
      rw [Nat.zero_add] at this
      rw [this]; simp
    · rw [Array.getElem?_eq_none (by omega), Array.getElem?_eq_none (by omega)]
  rw [e]

/-- Blocks that are none of these. -/
def Frx (S D YB : Nat) (O : Nat → Prop) (b : Nat) : Prop := b ≠ S ∧ b ≠ D ∧ b ≠ YB ∧ ¬ O b
/-- The document's machine in its box. -/
structure YA (P : Nat → Prop) (w : World) (YB : Nat) (mx : Am) (V : Array Value) : Prop where
  bx : w.heap[YB]? = some (.cells V 59 (0, 0))
  ra : RAm P w mx (.agg V)
  v : V27 mx V
theorem YA.uf {P Q : Nat → Prop} {F : Nat → Prop} {w w' : World} {YB : Nat} {mx : Am} {V : Array Value} (h : YA P w YB mx V) (u : UF F w w') (hY : ¬ F YB) (hP : ∀ b, P b → b < w.heap.size → ¬ F b ∧ Q b) : YA Q w' YB mx V :=
  ⟨(u.block YB (Array.getElem?_eq_some_iff.1 h.bx).1 hY).trans h.bx, h.ra.uf u hP, h.v⟩
theorem row_uf2 {P Q : Nat → Prop} {F : Nat → Prop} {w w' : World} {A : Option Addr} {zs : List Int} (h : ReadsW P w A zs) (u : UF F w w') (hP : ∀ b, P b → b < w.heap.size → ¬ F b ∧ Q b) : ReadsW Q w' A zs := fun h0 => by
  obtain ⟨b, off, e, hlt, hp, hc⟩ := h h0
  have := hP b hp hlt
  exact ⟨b, off, e, Nat.lt_of_lt_of_le hlt u.size, this.2, fun j hj => (World.cell?_of_block (w := w) (a := ⟨b, off + j, none⟩) (u.block b hlt this.1)).trans (hc j hj)⟩
/-- All of it. -/
structure AP (S D N X YB : Nat) (c : Cfg) (w7 wr : World) (O Dp : Nat → Prop) (V : Array Value) (m mx : Am) (L LR : List Int) (R : Option Addr) (cc t : Int) : Prop where
  st : St wr S D L cc
  c0 : 0 ≤ cc
  bel : Below w7.heap.size w7 wr
  mp : Lay.IsMap w7 N c
  ok : OkC c
  lo : w7.heap.size ≤ S ∧ w7.heap.size ≤ D ∧ w7.heap.size ≤ YB ∧ YB ≠ S ∧ YB ≠ D
  ak : AKM wr X O Dp c N m
  ap : ∀ b, Dp b → w7.heap.size ≤ b ∧ b ≠ S ∧ b ≠ D ∧ b ≠ YB
  ym : YA (Frx S D YB O) wr YB mx V
  rd : ReadsW (Frx S D YB O) wr R LR
  aw : AW c t m
  awx : AW c t mx
  ww : WW L
  wwx : WW LR
section
variable {S D N X YB : Nat} {c : Cfg} {w7 wr w' : World} {O Dp : Nat → Prop} {V : Array Value} {m mx : Am} {L LR : List Int} {R : Option Addr} {cc t : Int}
theorem AP.ltY (h : AP S D N X YB c w7 wr O Dp V m mx L LR R cc t) : YB < wr.heap.size := (Array.getElem?_eq_some_iff.1 h.ym.bx).1
theorem AP.mpw (h : AP S D N X YB c w7 wr O Dp V m mx L LR R cc t) : Lay.IsMap wr N c ∧ N < w7.heap.size := ⟨h.mp.below h.bel, h.mp.1⟩
theorem AP.below (h : AP S D N X YB c w7 wr O Dp V m mx L LR R cc t) (hb : Below wr.heap.size wr w') : AP S D N X YB c w7 w' O Dp V m mx L LR R cc t := by
  have u := UF.of_below (F := fun _ => False) hb
  exact ⟨h.st.below hb, h.c0, below_step h.bel h.bel.size hb, h.mp, h.ok, h.lo, h.ak.below hb, h.ap, h.ym.uf u (fun f => f) (fun b hb _ => ⟨fun f => f, hb⟩), h.rd.below hb, h.aw, h.awx, h.ww, h.wwx⟩
theorem AP.far (h : AP S D N X YB c w7 wr O Dp V m mx L LR R cc t) : ∀ b, wr.heap.size ≤ b → Frx S D YB O b := fun b hb => by
  have := h.st.ltS; have := h.st.row.lt; have := h.ltY
  exact ⟨by omega, by omega, by omega, fun ho => by have := h.ak.ins.2.2 b (h.ak.ins.2.1 b ho); omega⟩
theorem AP.cells (h : AP S D N X YB c w7 wr O Dp V m mx L LR R cc t) : wr.cell? ⟨YB, 0, none⟩ = some (.int .i64 mx.pc) ∧ wr.cell? ⟨YB, 26, none⟩ = some (.bool mx.sp) := by
  have b := h.ym.bx
  exact ⟨(cell_of_row wr YB 0 V _ _ b).trans h.ym.v.c0, (cell_of_row wr YB 26 V _ _ b).trans h.ym.v.c26⟩
theorem AP.count (h : AP S D N X YB c w7 wr O Dp V m mx L LR R cc t) : Calls Tryz.prog 19 #[ptr S] wr fun a w' => a = .returned (.int .i64 cc) ∧ wr = w' := cnt_any wr h.st
theorem AP.spilled (h : AP S D N X YB c w7 wr O Dp V m mx L LR R cc t) : Calls Tryz.prog 22 #[ptr X] wr fun e w' => e = .returned (.bool m.sp) ∧ AP S D N X YB c w7 w' O Dp V m mx L LR R cc t :=
  (h.ak.spilled).mono fun _ _ ⟨a, b⟩ => ⟨a, h.below b⟩
theorem AP.all (h : AP S D N X YB c w7 wr O Dp V m mx L LR R cc t) (hl : L.length ≤ 1000000) :
    Calls Tryz.prog 17 #[ptr S] wr fun a w' => a = .returned (.slice (some ⟨wr.heap.size, 0, none⟩) L.length L.length) ∧ Reads .u64 w' (some ⟨wr.heap.size, 0, none⟩) L ∧ AP S D N X YB c w7 w' O Dp V m mx L LR R cc t := by
  refine (all_any wr h.st hl).mono ?_
  rintro a w1 ⟨rfl, hr, hb⟩
  exact ⟨rfl, hr.reads, h.below hb⟩
/-- The program's step. -/
theorem AP.stepM (h : AP S D N X YB c w7 wr O Dp V m mx L LR R cc t) (hc : cc ≤ 800000000) (ht : t ≤ 800000000) :
    Calls Tryz.prog 20 #[ptr X, ptr S] wr fun e w' => e = .returned (.bool (decide ((astp (gOf c) L m).2.pc = 0))) ∧ ∃ O' D', AP S D N X YB c w7 w' O' D' V (astp (gOf c) L m).2 mx (astp (gOf c) L m).1 LR R (acost m cc) (t + 1) := by
  have hm := h.mpw
  have lo := h.lo
  have hc0 := h.c0
  have p2 := h.ap
  refine (step_ak h.ok h.ak h.st hm.1 (fun hd => (p2 _ hd).2.1 rfl) (fun hd => (p2 _ hd).2.2.1 rfl) (fun ho => by have := p2 _ (h.ak.ins.2.1 _ ho); omega) (by omega) (by omega) h.aw h.ww hc0 (by omega) (by omega)).mono ?_
  rintro e w1 ⟨rfl, ⟨O', D', hp', ho', hd'⟩, hs', u⟩
  have hO : ∀ b, O b → w7.heap.size ≤ b ∧ b ≠ S ∧ b ≠ D ∧ b ≠ YB := fun b hb => p2 b (h.ak.ins.2.1 b hb)
  have hsz := h.bel.size
  have hyb := h.ltY
  have hS := h.st.ltS
  have hD := h.st.row.lt
  have fr : ∀ b, Frx S D YB O b → b < wr.heap.size → ¬ (b = S ∨ b = D ∨ O b) ∧ Frx S D YB O' b := fun b hb hlt => by
    refine ⟨fun e => by rcases e with e | e | e; exact hb.1 e; exact hb.2.1 e; exact hb.2.2.2 e, hb.1, hb.2.1, hb.2.2.1, fun ho => ?_⟩
    rcases ho' b ho with x | x
    · exact hb.2.2.2 x
    · omega
  have aw' := h.aw.step h.ww
  refine ⟨rfl, O', D', hs', ?_, below_uf h.bel (Nat.le_refl _) u (fun b hb => ?_), h.mp, h.ok, lo, hp', fun b hb => ?_, h.ym.uf u (fun e => ?_) fr, row_uf2 h.rd u fr, aw'.1, h.awx.mono (by omega), aw'.2, h.wwx⟩
  · unfold acost; split <;> omega
  · rcases hb with rfl | rfl | hb
    · exact lo.1
    · exact lo.2.1
    · exact (hO b hb).1
  · rcases hd' b hb with x | x
    · exact p2 b x
    · exact ⟨by omega, by omega, by omega, by omega⟩
  · rcases e with e | e | e
    · exact lo.2.2.2.1 e
    · exact lo.2.2.2.2 e
    · exact (hO _ e).2.2.2 rfl
/-- Another one changes a word. -/
theorem AP.poke (h : AP S D N X YB c w7 wr O Dp V m mx L LR R cc t) (p v : Int) (hv : 0 ≤ v ∧ v ≤ 18446744073709551615) (hc : cc ≤ 900000000) :
    Calls Tryz.prog 25 #[ptr S, .int .i64 p, .int .u64 v] wr fun e w' => e = .returned (.tuple #[]) ∧ AP S D N X YB c w7 w' O Dp V m mx (ptq L p v) LR R (cc + 1) t := by
  have lo := h.lo
  have hc0 := h.c0
  have p2 := h.ap
  refine (put_any p v wr h.st hc0 (by omega)).mono ?_
  rintro e w1 ⟨rfl, l⟩
  rw [ptv_eq] at l
  have u := UF.of_upd l.2
  have fr : ∀ b, Frx S D YB O b → b < wr.heap.size → ¬ (b = S ∨ b = D) ∧ Frx S D YB O b := fun b hb hlt => ⟨fun e => by rcases e with e | e; exact hb.1 e; exact hb.2.1 e, hb⟩
  exact ⟨rfl, l.1, by omega, below_uf h.bel (Nat.le_refl _) u (fun b hb => by rcases hb with rfl | rfl; exact lo.1; exact lo.2.1), h.mp, h.ok, lo, h.ak.keep u.size (fun k hk => u.block k (h.ak.ins.2.2 k hk) (fun e => by have := p2 k hk; rcases e with e | e; exact this.2.1 e; exact this.2.2.1 e)), p2, h.ym.uf u (fun e => by rcases e with e | e; exact lo.2.2.2.1 e; exact lo.2.2.2.2 e) fr, row_uf2 h.rd u fr, h.aw, h.awx, h.ww.put _ hv, h.wwx⟩
/-- The document's memory is another one. -/
theorem AP.newR {R' : Option Addr} {L' : List Int} (h : AP S D N X YB c w7 wr O Dp V m mx L LR R cc t) (hb : Below wr.heap.size wr w') (hr : ReadsW (Frx S D YB O) w' R' L') (ww : WW L') : AP S D N X YB c w7 w' O Dp V m mx L L' R' cc t := by
  have h' := h.below hb
  exact ⟨h'.st, h'.c0, h'.bel, h'.mp, h'.ok, h'.lo, h'.ak, h'.ap, h'.ym, hr, h'.aw, h'.awx, h'.ww, ww⟩
/-- The document's machine is laid into its box. -/
theorem AP.putY {m' : Am} {V' : Array Value} (h : AP S D N X YB c w7 wr O Dp V m mx L LR R cc t) (r : RAm (Frx S D YB O) wr m' (.agg V')) (hv : V27 m' V') (aw' : AW c t m') :
    AP S D N X YB c w7 (wr.setCells YB 0 V'.toList) O Dp V' m m' L LR R cc t := by
  obtain ⟨s, u0⟩ := row_set (U := V') h.ym.bx (h.ym.v.size.trans hv.size.symm)
  have u := UF.of_upd u0
  generalize wr.setCells YB 0 V'.toList = W at s u ⊢
  have lo := h.lo
  have fr : ∀ b, Frx S D YB O b → b < wr.heap.size → ¬ (b = YB ∨ b = YB) ∧ Frx S D YB O b := fun b hb _ => ⟨fun e => by rcases e with e | e <;> exact hb.2.2.1 e, hb⟩
  exact ⟨St_same h.st (u.block S h.st.ltS (fun e => by omega)) (u.block D h.st.row.lt (fun e => by omega)), h.c0, below_uf h.bel (Nat.le_refl _) u (fun b hb => by rcases hb with rfl | rfl <;> exact lo.2.2.1), h.mp, h.ok, lo, h.ak.keep u.size (fun k hk => u.block k (h.ak.ins.2.2 k hk) (fun e => by have := h.ap k hk; rcases e with e | e <;> exact this.2.2.2 e)), h.ap, ⟨s, r.uf u fr, hv⟩, row_uf2 h.rd u fr, h.aw, aw', h.ww, h.wwx⟩
/-- Blocks that are none of these, ahead of the box. -/
def Fry (S D : Nat) (O : Nat → Prop) (b : Nat) : Prop := b ≠ S ∧ b ≠ D ∧ ¬ O b
/-- All begins: the document's machine is laid into a new box. -/
theorem AP.begin {w W : World} (hb : Below w.heap.size w W) (nb : W.heap[w.heap.size]? = some (.cells V 59 (0, 0))) (hs : St w S D L cc) (c0 : 0 ≤ cc) (bel : Below w7.heap.size w7 w) (mp : Lay.IsMap w7 N c) (ok : OkC c) (lo : w7.heap.size ≤ S ∧ w7.heap.size ≤ D) (ak : AKM w X O Dp c N m) (ap : ∀ b, Dp b → w7.heap.size ≤ b ∧ b ≠ S ∧ b ≠ D)
    (ra : RAm (Fry S D O) w mx (.agg V)) (hv : V27 mx V) (rd : ReadsW (Fry S D O) w R L) (aw : AW c 0 m) (awx : AW c 0 mx) (ww : WW L) :
    AP S D N X w.heap.size c w7 W O Dp V m mx L L R cc 0 := by
  have u := UF.of_below (F := fun _ => False) hb
  have hS := hs.ltS; have hD := hs.row.lt; have hz := bel.size
  have fr : ∀ b, Fry S D O b → b < w.heap.size → ¬ False ∧ Frx S D w.heap.size O b := fun b hf hlt => ⟨fun f => f, hf.1, hf.2.1, by omega, hf.2.2⟩
  refine ⟨hs.below hb, c0, below_step bel hz hb, mp, ok, ⟨lo.1, lo.2, hz, by omega, by omega⟩, ak.below hb, fun b hb2 => ?_, ⟨nb, ra.uf u fr, hv⟩, row_uf2 rd u fr, aw, awx, ww, ww⟩
  have := ap b hb2
  have := ak.ins.2.2 b hb2
  exact ⟨by omega, by omega, by omega, by omega⟩
/-- All begins, wherever the box has come to stand. -/
theorem AP.begin2 {w W : World} (hb : Below w.heap.size w W) (hY : w.heap.size ≤ YB) (nb : W.heap[YB]? = some (.cells V 59 (0, 0))) (hs : St w S D L cc) (c0 : 0 ≤ cc) (bel : Below w7.heap.size w7 w) (mp : Lay.IsMap w7 N c) (ok : OkC c) (lo : w7.heap.size ≤ S ∧ w7.heap.size ≤ D) (ak : AKM w X O Dp c N m) (ap : ∀ b, Dp b → w7.heap.size ≤ b ∧ b ≠ S ∧ b ≠ D)
    (ra : RAm (fun _ => False) W mx (.agg V)) (hv : V27 mx V) (rd : ReadsW (Fry S D O) w R L) (aw : AW c 0 m) (awx : AW c 0 mx) (ww : WW L) :
    AP S D N X YB c w7 W O Dp V m mx L L R cc 0 := by
  have u := UF.of_below (F := fun _ => False) hb
  have hS := hs.ltS; have hD := hs.row.lt; have hz := bel.size
  have fr : ∀ b, Fry S D O b → b < w.heap.size → ¬ False ∧ Frx S D YB O b := fun b hf hlt => ⟨fun f => f, hf.1, hf.2.1, by omega, hf.2.2⟩
  refine ⟨hs.below hb, c0, below_step bel hz hb, mp, ok, ⟨lo.1, lo.2, by omega, by omega, by omega⟩, ak.below hb, fun b hb2 => ?_, ⟨nb, ra.uf (UF.refl (fun _ => False) _) (fun b f => f.elim), hv⟩, row_uf2 rd u fr, aw, awx, ww, ww⟩
  have := ap b hb2
  have := ak.ins.2.2 b hb2
  exact ⟨by omega, by omega, by omega, by omega⟩
end
/-! The box as a whole. -/
abbrev zero27 : Array Value := #[.int .i64 0, .int .u64 0, .int .i64 0, .int .i64 0, .int .i64 0, .int .i64 0, .int .i64 0, .int .i64 0, .int .u64 0, .int .u64 0, .int .u64 0, .bool false, .int .i64 0, .int .i64 0, .int .i64 0, .slice none 0 0, .int .i64 0, .int .i64 0, .int .i64 0, .int .i64 0, .int .i64 0, .slice none 0 0, .int .u32 0, .int .u64 0, .int .u32 0, .int .i64 0, .bool false]
theorem load27 {w : World} {B : Nat} {m : Am} {V : Array Value} (h : w.heap[B]? = some (.cells V 59 (0, 0))) (hv : V27 m V) : (Instr.loadAt 59 (.pointer (some ⟨B, 0, none⟩))).run Tryz.prog w = .ok (.agg V) w := by
  have e := run_loadAt_mid (P := Tryz.prog) w B 0 59 V.toList _ (rng27 h) row59.choose_spec.1 row59.choose_spec.2 (by rw [show V.toList.length = 27 from by simpa using hv.size]; kernel_rfl)
  simpa using e
theorem store27 {w : World} {B : Nat} {m mx : Am} {V U : Array Value} (h : w.heap[B]? = some (.cells U 59 (0, 0))) (hu : U.size = 27) (hv : V27 m V) : (Instr.storeAt 59 (.pointer (some ⟨B, 0, none⟩)) (.agg V)).run Tryz.prog w = .ok () (w.setCells B 0 V.toList) :=
  run_storeAt_mid (P := Tryz.prog) w B 0 59 V (by rw [hv.size]; exact there27 h hu) (by rw [hv.size]; kernel_rfl) hv.one
/-- Stored into a new box. -/
theorem new27 {w : World} {V : Array Value} {m : Am} (hv : V27 m V) : Below w.heap.size w ((w.alloc (.cells zero27 59)).setCells w.heap.size 0 V.toList) ∧ ((w.alloc (.cells zero27 59)).setCells w.heap.size 0 V.toList).heap[w.heap.size]? = some (.cells V 59 (0, 0)) := by
  have h := Go.heap_alloc_new w (.cells zero27 59)
  obtain ⟨g, u⟩ := row_set (U := V) h (by rw [hv.size]; rfl)
  exact ⟨below_uf (below_alloc0 (Below.refl _ _) _) (Nat.le_refl _) (UF.of_upd u) (fun k e => by rcases e with e | e <;> exact Nat.le_of_eq e.symm), g⟩
theorem storeN27 {w : World} {m : Am} {V : Array Value} (hv : V27 m V) : (Instr.storeAt 59 (.pointer (some ⟨w.heap.size, 0, none⟩)) (.agg V)).run Tryz.prog (w.alloc (.cells zero27 59)) = .ok () ((w.alloc (.cells zero27 59)).setCells w.heap.size 0 V.toList) :=
  store27 (m := m) (mx := m) (Go.heap_alloc_new w _) rfl hv
/-! For the walk: the box is read and written as a whole. -/
/-- Cells that make a whole row. -/
def Ok27 (V : Array Value) : Prop := V.size = 27 ∧ V.all (·.oneCell') = true
theorem V27.ok {m : Am} {V : Array Value} (h : V27 m V) : Ok27 V := ⟨h.size, h.one⟩
def row27 (w : World) (B : Nat) : Array Value := match w.heap[B]? with | some (.cells V _ _) => V | _ => #[]
def Is27 (w : World) (B : Nat) : Prop := ∃ V, w.heap[B]? = some (.cells V 59 (0, 0)) ∧ Ok27 V
/-- A new box with these cells; a box with other cells. -/
def new27w (w : World) (V : Array Value) : World := (w.alloc (.cells zero27 59)).setCells w.heap.size 0 V.toList
def set27w (w : World) (B : Nat) (V : Array Value) : World := w.setCells B 0 V.toList
@[go_sem ↓ high] theorem sem_new27 {w : World} {V : Array Value} (h : Ok27 V) : (Instr.storeAt 59 (.pointer (some ⟨w.heap.size, 0, none⟩)) (.agg V)).run Tryz.prog (w.alloc (.cells #[.int .i64 0, .int .u64 0, .int .i64 0, .int .i64 0, .int .i64 0, .int .i64 0, .int .i64 0, .int .i64 0, .int .u64 0, .int .u64 0, .int .u64 0, .bool false, .int .i64 0, .int .i64 0, .int .i64 0, .slice none 0 0, .int .i64 0, .int .i64 0, .int .i64 0, .int .i64 0, .int .i64 0, .slice none 0 0, .int .u32 0, .int .u64 0, .int .u32 0, .int .i64 0, .bool false] 59)) = .ok () (new27w w V) :=
  run_storeAt_mid (P := Tryz.prog) _ w.heap.size 0 59 V (by rw [h.1]; exact there27 (Go.heap_alloc_new w _) rfl) (by rw [h.1]; kernel_rfl) h.2
@[go_sem ↓ high] theorem sem_load27 {w : World} {B : Nat} (h : Is27 w B) : (Instr.loadAt 59 (.pointer (some ⟨B, 0, none⟩))).run Tryz.prog w = .ok (.agg (row27 w B)) w := by
  obtain ⟨V, hb, h1, h2⟩ := h
  have e : row27 w B = V := by unfold row27; rw [hb]
  rw [e]
  have e := run_loadAt_mid (P := Tryz.prog) w B 0 59 V.toList _ (rng27 hb) row59.choose_spec.1 row59.choose_spec.2 (by rw [show V.toList.length = 27 from by simpa using h1]; kernel_rfl)
  simpa using e
@[go_sem ↓ high] theorem sem_set27 {w : World} {B : Nat} {V : Array Value} (h : Is27 w B) (hv : Ok27 V) : (Instr.storeAt 59 (.pointer (some ⟨B, 0, none⟩)) (.agg V)).run Tryz.prog w = .ok () (set27w w B V) := by
  obtain ⟨U, hb, h1, h2⟩ := h
  exact run_storeAt_mid (P := Tryz.prog) w B 0 59 V (by rw [hv.1]; exact there27 hb h1) (by rw [hv.1]; kernel_rfl) hv.2
/-! The same as the walk leaves them, cells by cells. -/
@[go_sem ↓ high] theorem sem_newc27 {w : World} {V : Array Value} (h : Ok27 V) : (storeCells ⟨w.heap.size, 0, none⟩ V.toList).run Tryz.prog (w.alloc (.cells #[.int .i64 0, .int .u64 0, .int .i64 0, .int .i64 0, .int .i64 0, .int .i64 0, .int .i64 0, .int .i64 0, .int .u64 0, .int .u64 0, .int .u64 0, .bool false, .int .i64 0, .int .i64 0, .int .i64 0, .slice none 0 0, .int .i64 0, .int .i64 0, .int .i64 0, .int .i64 0, .int .i64 0, .slice none 0 0, .int .u32 0, .int .u64 0, .int .u32 0, .int .i64 0, .bool false] 59)) = .ok () (new27w w V) := by
  have e := run_storeCells_cells (P := Tryz.prog) w.heap.size 0 V.toList 0 (w.alloc (.cells zero27 59))
    (fun j hj => by simpa using (there27 (Go.heap_alloc_new w (.cells zero27 59)) rfl j (by have := h.1; simp at hj; omega)).1)
    (fun j hj => by simpa using (there27 (Go.heap_alloc_new w (.cells zero27 59)) rfl j (by have := h.1; simp at hj; omega)).2)
    (fun v hv => (Array.all_eq_true_iff_forall_mem.1 h.2) v (by simpa using hv))
  simpa [new27w] using e
@[go_sem ↓ high] theorem sem_setc27 {w : World} {B : Nat} {V : Array Value} (h : Is27 w B) (hv : Ok27 V) : (storeCells ⟨B, 0, none⟩ V.toList).run Tryz.prog w = .ok () (set27w w B V) := by
  obtain ⟨U, hb, h1, h2⟩ := h
  have e := run_storeCells_cells (P := Tryz.prog) B 0 V.toList 0 w
    (fun j hj => by simpa using (there27 hb h1 j (by have := hv.1; simp at hj; omega)).1)
    (fun j hj => by simpa using (there27 hb h1 j (by have := hv.1; simp at hj; omega)).2)
    (fun v hq => (Array.all_eq_true_iff_forall_mem.1 hv.2) v (by simpa using hq))
  simpa [set27w] using e
@[go_sem ↓ high] theorem sem_loadc27 {w : World} {B : Nat} (h : Is27 w B) : (loadCells ⟨B, 0, none⟩ 27).run Tryz.prog w = .ok (row27 w B) w := by
  obtain ⟨V, hb, h1, h2⟩ := h
  have e : row27 w B = V := by unfold row27; rw [hb]
  rw [e]
  have e := run_loadCells_list (P := Tryz.prog) w ⟨B, 0, none⟩ V.toList (fun j v hv => by rw [Addr.add_mid]; exact rng27 hb j v hv)
  simpa [h1] using e
theorem new27_below {w : World} {V : Array Value} (h : Ok27 V) : Below w.heap.size w (new27w w V) := by
  have h0 := Go.heap_alloc_new w (.cells zero27 59)
  obtain ⟨g, u⟩ := row_set (U := V) h0 (by rw [h.1]; rfl)
  exact below_uf (below_alloc0 (Below.refl _ _) _) (Nat.le_refl _) (UF.of_upd u) (fun k e => by rcases e with e | e <;> exact Nat.le_of_eq e.symm)
theorem new27_row {w : World} {V : Array Value} (h : Ok27 V) : (new27w w V).heap[w.heap.size]? = some (.cells V 59 (0, 0)) := by
  have h0 := Go.heap_alloc_new w (.cells zero27 59)
  exact (row_set (U := V) h0 (by rw [h.1]; rfl)).1
theorem new27_size {w : World} {V : Array Value} (h : Ok27 V) : w.heap.size < (new27w w V).heap.size := (Array.getElem?_eq_some_iff.1 (new27_row h)).1
theorem set27_upd {w : World} {B : Nat} {V : Array Value} (h : Is27 w B) (hv : Ok27 V) : (set27w w B V).heap[B]? = some (.cells V 59 (0, 0)) ∧ Upd B B w (set27w w B V) := by
  obtain ⟨U, hb, h1, h2⟩ := h
  exact row_set (U := V) hb (h1.trans hv.1.symm)
theorem set27_below {lo : Nat} {w0 w : World} {B : Nat} {V : Array Value} (hb : Below lo w0 w) (h0 : lo ≤ w0.heap.size) (hB : lo ≤ B) (h : Is27 w B) (hv : Ok27 V) : Below lo w0 (set27w w B V) :=
  below_uf hb h0 (UF.of_upd (set27_upd h hv).2) (fun k e => by rcases e with rfl | rfl <;> exact hB)
theorem is27_new {w : World} : Is27 (w.alloc (.cells #[.int .i64 0, .int .u64 0, .int .i64 0, .int .i64 0, .int .i64 0, .int .i64 0, .int .i64 0, .int .i64 0, .int .u64 0, .int .u64 0, .int .u64 0, .bool false, .int .i64 0, .int .i64 0, .int .i64 0, .slice none 0 0, .int .i64 0, .int .i64 0, .int .i64 0, .int .i64 0, .int .i64 0, .slice none 0 0, .int .u32 0, .int .u64 0, .int .u32 0, .int .i64 0, .bool false] 59)) w.heap.size :=
  ⟨_, Go.heap_alloc_new w _, rfl, by simp only [List.all_toArray, List.all_cons, List.all_nil, Value.oneCell', Bool.and_self]⟩
theorem Is27.below {w w' : World} {B : Nat} (h : Is27 w B) (hb : Below w.heap.size w w') : Is27 w' B := by
  obtain ⟨V, h1, h2⟩ := h
  exact ⟨V, (hb.block B (Array.getElem?_eq_some_iff.1 h1).1).trans h1, h2⟩
theorem Is27.drew {w : World} {B : Nat} (h : Is27 w B) : Is27 w.drew B := h
theorem RAm.none {w w' : World} {m : Am} {v : Value} (h : RAm (fun _ => False) w m v) (u : UF (fun _ => True) w w') : RAm (fun _ => False) w' m v := h.uf u (fun b f => f.elim)
theorem uf_true {w w' : World} (hb : Below w.heap.size w w') : UF (fun _ => True) w w' := UF.mono (F := fun _ => False) (UF.of_below hb) (fun _ _ _ => trivial)
theorem reads_fry {S D : Nat} {O : Nat → Prop} {wr w10 w11 : World} {L : List Int} (hr : Reads .u64 w10 (some ⟨wr.heap.size, 0, none⟩) L) (hb : Below w10.heap.size w10 w11) (hS : S < wr.heap.size) (hD : D < wr.heap.size) (hO : ∀ b, O b → w10.heap.size ≤ b) :
    ReadsW (Fry S D O) w11 (some ⟨wr.heap.size, 0, none⟩) L := fun h0 => by
  obtain ⟨b, off, e, hlt, hc⟩ := hr h0
  injection e with e; injection e with e1 e2 _
  subst e1; subst e2
  exact ⟨wr.heap.size, 0, rfl, Nat.lt_of_lt_of_le hlt hb.size, ⟨by omega, by omega, fun ho => by have := hO _ ho; omega⟩, fun j hj => (World.cell?_of_block (w := w10) (a := ⟨wr.heap.size, 0 + j, none⟩) (hb.block _ hlt)).trans (hc j hj)⟩
theorem is27 {w : World} {B : Nat} {m : Am} {V : Array Value} (h : w.heap[B]? = some (.cells V 59 (0, 0))) (hv : V27 m V) : Is27 w B ∧ row27 w B = V := ⟨⟨V, h, hv.ok⟩, by unfold row27; rw [h]⟩
/-! At the list of a plain region's operations. -/
theorem wpList_load27 {m : Am} {ops : Array Oper} {rest : List Oper} {op : Oper} {a : Act} {w : World} {Q : Exit → Act → World → Prop} (hgd : op.guard = none) (x : Operand) (ho : op.op = .load 59 x) (B : Nat) (V : Array Value)
    (hx : a.eval x = .pointer (some ⟨B, 0, none⟩)) (hb : w.heap[B]? = some (.cells V 59 (0, 0))) (hv : V27 m V)
    (h : wpList Tryz.prog ops Q rest (a.put op.dst (.agg V)) w) : wpList Tryz.prog ops Q (op :: rest) a w := by
  refine wpList_load_mid hgd 59 x ho B 0 hx V.toList _ (rng27 hb) row59.choose_spec.1 row59.choose_spec.2 (by rw [show V.toList.length = 27 from by simpa using hv.size]; kernel_rfl) ?_
  simpa using h
theorem wpList_set27 {ops : Array Oper} {rest : List Oper} {op : Oper} {a : Act} {w : World} {Q : Exit → Act → World → Prop} (hgd : op.guard = none) (x y : Operand) (ho : op.op = .store 59 x y) (B : Nat) (V : Array Value)
    (hx : a.eval x = .pointer (some ⟨B, 0, none⟩)) (hy : a.eval y = .agg V) (hi : Is27 w B) (hv : Ok27 V)
    (h : wpList Tryz.prog ops Q rest (a.put op.dst undef) (set27w w B V)) : wpList Tryz.prog ops Q (op :: rest) a w := by
  obtain ⟨U, hb, h1, h2⟩ := hi
  exact wpList_store_mid hgd 59 x y ho B 0 V hx hy (by rw [hv.1]; exact there27 hb h1) (by rw [hv.1]; kernel_rfl) hv.2 h
/-! For the walk of the loop. -/
section
variable {S D N X YB : Nat} {c : Cfg} {w7 wr w' : World} {O Dp : Nat → Prop} {V : Array Value} {m mx : Am} {L LR : List Int} {R : Option Addr} {cc t : Int}
theorem AP.cells2 (h : AP S D N X YB c w7 wr O Dp V m mx L LR R cc t) {m' : Am} (tw : Twin m' mx) : wr.cell? ⟨YB, 0, none⟩ = some (.int .i64 m'.pc) ∧ wr.cell? ⟨YB, 26, none⟩ = some (.bool m'.sp) := by
  rw [← tw.pc.1, ← tw.pc.2]; exact h.cells
theorem AP.box (h : AP S D N X YB c w7 wr O Dp V m mx L LR R cc t) : Is27 wr YB ∧ row27 wr YB = V := is27 h.ym.bx h.ym.v
/-- Behind the document's step: its result in a new box. -/
theorem AP.newZ {m' : Am} {V' : Array Value} (h : AP S D N X YB c w7 wr O Dp V m mx L LR R cc t) (hv : V27 m' V') :
    AP S D N X YB c w7 (new27w wr V') O Dp V m mx L LR R cc t ∧ Is27 (new27w wr V') wr.heap.size ∧ row27 (new27w wr V') wr.heap.size = V' ∧ Is27 (new27w wr V') YB := by
  have h2 := h.below (new27_below hv.ok)
  exact ⟨h2, (is27 (new27_row hv.ok) hv).1, (is27 (new27_row hv.ok) hv).2, h2.box.1⟩
/-- It is laid into the box. -/
theorem AP.setY {m' : Am} {V' : Array Value} (h : AP S D N X YB c w7 wr O Dp V m mx L LR R cc t) (r : RAm (Frx S D YB O) wr m' (.agg V')) (hv : V27 m' V') (aw' : AW c t m') :
    AP S D N X YB c w7 (set27w wr YB V') O Dp V' m m' L LR R cc t := h.putY r hv aw'
end
theorem RAm.newZ {Q : Nat → Prop} {w : World} {m : Am} {v : Value} {V : Array Value} (h : RAm Q w m v) (hv : Ok27 V) : RAm Q (new27w w V) m v :=
  h.uf (UF.of_below (F := fun _ => False) (new27_below hv)) (fun b hb _ => ⟨fun f => f, hb⟩)
theorem ends_any2 {c : Cfg} (hc : OkC c) (N : Nat) (i : Int) (hi : (Lit.int .i64 i).wf = true) (w : World) (hm : Lay.IsMap w N c) :
    Calls Tryz.prog 27 #[Lay.mapP N, .int .i64 i] w fun e w' => e = .returned (.agg #[.int .i64 (plcc c 8 i 0), .int .i64 (plcc c 9 i 0), .int .i64 (plcc c 10 i 0), .int .i64 c.dq]) ∧ Below w.heap.size w w' := ends_any hc N i hi w hm
theorem box4 {w w' : World} {a b c d : Value} {T : TypeId} (hb : Below (w.alloc (.cells #[a, b, c, d] T)).heap.size (w.alloc (.cells #[a, b, c, d] T)) w') :
    w'.cell? ⟨w.heap.size, 0, none⟩ = some a ∧ w'.cell? ⟨w.heap.size, 1, none⟩ = some b ∧ w'.cell? ⟨w.heap.size, 2, none⟩ = some c ∧ w'.cell? ⟨w.heap.size, 3, none⟩ = some d := by
  have h := Go.heap_alloc_new w (.cells #[a, b, c, d] T)
  have h2 := (hb.block w.heap.size (Array.getElem?_eq_some_iff.1 h).1).trans h
  exact ⟨cell_of_row _ _ _ _ _ _ h2, cell_of_row _ _ _ _ _ _ h2, cell_of_row _ _ _ _ _ _ h2, cell_of_row _ _ _ _ _ _ h2⟩
end Go.Proofs.YtponbnbgiiepdaaGreat
