/-  -/
import Derived.Test.YtpocihddecemfaaGreatJ20
import Derived.Test.YtpocihddecemfaaGreatJ11
import Derived.Test.YtpocihddecemfaaGreatJ26
import Derived.Test.YtpocihddecemfaaGreatJ27
import Derived.Test.YtpocihddecemfaaGreatScK
import Derived.Test.YtpocihddecemfaaGreatScAw
import Derived.Test.YtpocihddecemfaaGreatJ5
import Derived.IntWalk
import Derived.Test.YtpocihddecemfaaGreatJ3
namespace Go.Proofs.YtpocihddecemfaaGreat
open Go.RowKit
set_option linter.unusedVariables false
set_option linter.unusedSimpArgs false
set_option maxRecDepth 100000
open Lay (plcc plc shOf packN nodesN OkC Cfg Norm firstV Rep lenL slotsOf kindV roomsI ksOf)
section
variable {w w' : World} {b : Nat} {l : List Int}
end
def ones (rm s : Nat) : List Int := (List.range rm).map fun j => if j < s then 1 else 0
end Go.Proofs.YtpocihddecemfaaGreat

namespace Go.Proofs.YtpocihddecemfaaGreat
open Go.RowKit
set_option linter.unusedVariables false
set_option linter.unusedSimpArgs false
set_option linter.unnecessarySimpa false
set_option maxRecDepth 100000
open Lay (plcc plc shOf packN nodesN OkC Cfg Norm firstV Rep lenL things)
structure YZ (P : Nat → Prop) (w : World) (YB : Nat) (c : Cfg) (i : Int) (mx : Zm) (V : Array Value) : Prop where
  bx : w.heap[YB]? = some (.cells V 64 (0, 0))
  v : ZV P w c i mx V
theorem YZ.uf {P Q : Nat → Prop} {F : Nat → Prop} {w w' : World} {YB : Nat} {c : Cfg} {i : Int} {mx : Zm} {V : Array Value} (h : YZ P w YB c i mx V) (u : UF F w w') (hY : ¬ F YB) (hP : ∀ b, P b → b < w.heap.size → ¬ F b ∧ Q b) : YZ Q w' YB c i mx V :=
  ⟨(u.block YB (Array.getElem?_eq_some_iff.1 h.bx).1 hY).trans h.bx, h.v.uf u hP⟩
structure ZP (S D N X YB : Nat) (c : Cfg) (i : Int) (w7 wr : World) (O Dp : Nat → Prop) (V : Array Value) (m mx : Zm) (L LR : List Int) (R : Option Addr) (cc t : Int) : Prop where
  st : St wr S D L cc
  c0 : 0 ≤ cc
  bel : Below w7.heap.size w7 wr
  mp : Lay.IsMap w7 N c
  ok : OkC c
  ii : 0 ≤ i ∧ i < c.mr
  lo : w7.heap.size ≤ S ∧ w7.heap.size ≤ D ∧ w7.heap.size ≤ YB ∧ YB ≠ S ∧ YB ≠ D
  ak : ZKM wr X O Dp c N i m
  ap : ∀ b, Dp b → w7.heap.size ≤ b ∧ b ≠ S ∧ b ≠ D ∧ b ≠ YB
  ym : YZ (Frx S D YB O) wr YB c i mx V
  rd : ReadsW (Frx S D YB O) wr R LR
  aw : ZW c t m
  awx : ZW c t mx
  wn : mx.pc = 5 → mx.c.won = false
  ww : WW L
  wwx : WW LR
section
variable {S D N X YB : Nat} {c : Cfg} {i : Int} {w7 wr w' : World} {O Dp : Nat → Prop} {V : Array Value} {m mx : Zm} {L LR : List Int} {R : Option Addr} {cc t : Int}
theorem ZP.ltY (h : ZP S D N X YB c i w7 wr O Dp V m mx L LR R cc t) : YB < wr.heap.size := (Array.getElem?_eq_some_iff.1 h.ym.bx).1
theorem ZP.mpw (h : ZP S D N X YB c i w7 wr O Dp V m mx L LR R cc t) : Lay.IsMap wr N c ∧ N < w7.heap.size := ⟨h.mp.below h.bel, h.mp.1⟩
theorem ZP.below (h : ZP S D N X YB c i w7 wr O Dp V m mx L LR R cc t) (hb : Below wr.heap.size wr w') : ZP S D N X YB c i w7 w' O Dp V m mx L LR R cc t := by
  have u := UF.of_below (F := fun _ => False) hb
  exact ⟨h.st.below hb, h.c0, below_step h.bel h.bel.size hb, h.mp, h.ok, h.ii, h.lo, h.ak.below hb, h.ap, h.ym.uf u (fun f => f) (fun b hb _ => ⟨fun f => f, hb⟩), h.rd.below hb, h.aw, h.awx, h.wn, h.ww, h.wwx⟩
theorem ZP.far (h : ZP S D N X YB c i w7 wr O Dp V m mx L LR R cc t) : ∀ b, wr.heap.size ≤ b → Frx S D YB O b := fun b hb => by
  have := h.st.ltS; have := h.st.row.lt; have := h.ltY
  exact ⟨by omega, by omega, by omega, fun ho => by have := h.ak.ins.2.2 b (h.ak.ins.2.1 b ho); omega⟩
theorem ZP.cells (h : ZP S D N X YB c i w7 wr O Dp V m mx L LR R cc t) : wr.cell? ⟨YB, 0, none⟩ = some (.int .i64 mx.pc) ∧ wr.cell? ⟨YB, 40, none⟩ = some (.int .i64 mx.ek) ∧ wr.cell? ⟨YB, 41, none⟩ = some (.int .i64 0) ∧ wr.cell? ⟨YB, 42, none⟩ = some (.int .i64 mx.ea) ∧ wr.cell? ⟨YB, 43, none⟩ = some (.int .i64 mx.eb) ∧ wr.cell? ⟨YB, 44, none⟩ = some (.int .i64 0) := by
  have b := h.ym.bx; have v := h.ym.v
  exact ⟨(row_get b 0).trans v.c0, (row_get b 40).trans v.e0, (row_get b 41).trans v.e1, (row_get b 42).trans v.e2, (row_get b 43).trans v.e3, (row_get b 44).trans v.e4⟩
theorem ZP.count (h : ZP S D N X YB c i w7 wr O Dp V m mx L LR R cc t) : Calls Tryz.prog 16 #[ptr S] wr fun a w' => a = .returned (.int .i64 cc) ∧ wr = w' := cnt_any wr h.st
theorem ZP.event (h : ZP S D N X YB c i w7 wr O Dp V m mx L LR R cc t) : Calls Tryz.prog 19 #[ptr X] wr fun e w' => e = .returned (evV m.ek m.ea m.eb) ∧ ZP S D N X YB c i w7 w' O Dp V m mx L LR R cc t :=
  (h.ak.event).mono fun _ _ ⟨a, b⟩ => ⟨a, h.below b⟩
theorem ZP.all (h : ZP S D N X YB c i w7 wr O Dp V m mx L LR R cc t) (hl : L.length ≤ 1000000) :
    Calls Tryz.prog 13 #[ptr S] wr fun a w' => a = .returned (.slice (some ⟨wr.heap.size, 0, none⟩) L.length L.length) ∧ Reads .u64 w' (some ⟨wr.heap.size, 0, none⟩) L ∧ ZP S D N X YB c i w7 w' O Dp V m mx L LR R cc t := by
  refine (all_any wr h.st hl).mono ?_
  rintro a w1 ⟨rfl, hr, hb⟩
  exact ⟨rfl, hr.reads, h.below hb⟩
theorem ZP.stepM (h : ZP S D N X YB c i w7 wr O Dp V m mx L LR R cc t) (hc : cc ≤ 800000000) (ht : t ≤ 800000000) :
    Calls Tryz.prog 17 #[ptr X, ptr S] wr fun e w' => e = .returned (.bool (decide ((zstp (zgOf c) (gOf c) (aNew (eOf c i)) L m).2.pc = 0))) ∧ ∃ O' D', ZP S D N X YB c i w7 w' O' D' V (zstp (zgOf c) (gOf c) (aNew (eOf c i)) L m).2 mx (zstp (zgOf c) (gOf c) (aNew (eOf c i)) L m).1 LR R (zcost m cc) (t + 1) := by
  have hm := h.mpw
  have lo := h.lo
  have hc0 := h.c0
  have p2 := h.ap
  refine (step_zk h.ok h.ak h.st hm.1 (fun hd => (p2 _ hd).2.1 rfl) (fun hd => (p2 _ hd).2.2.1 rfl) (fun ho => by have := p2 _ (h.ak.ins.2.1 _ ho); omega) (by omega) (by omega) h.aw h.ww h.ii.1 h.ii.2 hc0 (by omega) (by omega)).mono ?_
  rintro e w1 ⟨rfl, ⟨O', D', hp', ho', hd'⟩, hs', u⟩
  have hO : ∀ b, O b → w7.heap.size ≤ b ∧ b ≠ S ∧ b ≠ D ∧ b ≠ YB := fun b hb => p2 b (h.ak.ins.2.1 b hb)
  have hsz := h.bel.size
  have hyb := h.ltY
  have hS := h.st.ltS
  have hD := h.st.row.lt
  have fr : ∀ b, Frx S D YB O b → b < wr.heap.size → ¬ (b = S ∨ b = D ∨ O b) ∧ Frx S D YB O' b := fun b hb hlt => by
    refine ⟨fun e => by rcases e with e | e | e; exact hb.1 e; exact hb.2.1 e; exact hb.2.2.2 e, hb.1, hb.2.1, hb.2.2.1, fun ho => ?_⟩
    rcases ho' b ho with x | x
    · exact hb.2.2.2 x
    · omega
  have aw' := h.aw.step (i := i) h.ok h.ww
  refine ⟨rfl, O', D', hs', ?_, below_uf h.bel (Nat.le_refl _) u (fun b hb => ?_), h.mp, h.ok, h.ii, lo, hp', fun b hb => ?_, h.ym.uf u (fun e => ?_) fr, row_uf2 h.rd u fr, aw'.1, h.awx.mono (by omega), h.wn, aw'.2, h.wwx⟩
  · unfold zcost; split <;> omega
  · rcases hb with rfl | rfl | hb
    · exact lo.1
    · exact lo.2.1
    · exact (hO b hb).1
  · rcases hd' b hb with x | x
    · exact p2 b x
    · exact ⟨by omega, by omega, by omega, by omega⟩
  · rcases e with e | e | e
    · exact lo.2.2.2.1 e
    · exact lo.2.2.2.2 e
    · exact (hO _ e).2.2.2 rfl
theorem ZP.poke (h : ZP S D N X YB c i w7 wr O Dp V m mx L LR R cc t) (p v : Int) (hv : 0 ≤ v ∧ v ≤ 18446744073709551615) (hc : cc ≤ 900000000) :
    Calls Tryz.prog 21 #[ptr S, .int .i64 p, .int .u64 v] wr fun e w' => e = .returned (.tuple #[]) ∧ ZP S D N X YB c i w7 w' O Dp V m mx (ptq L p v) LR R (cc + 1) t := by
  have lo := h.lo
  have hc0 := h.c0
  have p2 := h.ap
  refine (put_any p v wr h.st hc0 (by omega)).mono ?_
  rintro e w1 ⟨rfl, l⟩
  rw [ptv_eq] at l
  have u := UF.of_upd l.2
  have fr : ∀ b, Frx S D YB O b → b < wr.heap.size → ¬ (b = S ∨ b = D) ∧ Frx S D YB O b := fun b hb hlt => ⟨fun e => by rcases e with e | e; exact hb.1 e; exact hb.2.1 e, hb⟩
  exact ⟨rfl, l.1, by omega, below_uf h.bel (Nat.le_refl _) u (fun b hb => by rcases hb with rfl | rfl; exact lo.1; exact lo.2.1), h.mp, h.ok, h.ii, lo, h.ak.keep u.size (fun k hk => u.block k (h.ak.ins.2.2 k hk) (fun e => by have := p2 k hk; rcases e with e | e; exact this.2.1 e; exact this.2.2.1 e)), p2, h.ym.uf u (fun e => by rcases e with e | e; exact lo.2.2.2.1 e; exact lo.2.2.2.2 e) fr, row_uf2 h.rd u fr, h.aw, h.awx, h.wn, h.ww.put _ hv, h.wwx⟩
theorem ZP.newR {R' : Option Addr} {L' : List Int} (h : ZP S D N X YB c i w7 wr O Dp V m mx L LR R cc t) (hb : Below wr.heap.size wr w') (hr : ReadsW (Frx S D YB O) w' R' L') (ww : WW L') : ZP S D N X YB c i w7 w' O Dp V m mx L L' R' cc t := by
  have h' := h.below hb
  exact ⟨h'.st, h'.c0, h'.bel, h'.mp, h'.ok, h'.ii, h'.lo, h'.ak, h'.ap, h'.ym, hr, h'.aw, h'.awx, h'.wn, h'.ww, ww⟩
theorem ZP.putY {m' : Zm} {V' : Array Value} (h : ZP S D N X YB c i w7 wr O Dp V m mx L LR R cc t) (r : ZV (Frx S D YB O) wr c i m' V') (aw' : ZW c t m') (wn' : m'.pc = 5 → m'.c.won = false) :
    ZP S D N X YB c i w7 (wr.setCells YB 0 V'.toList) O Dp V' m m' L LR R cc t := by
  obtain ⟨s, u0⟩ := row_all (U := V') h.ym.bx (h.ym.v.size.trans r.size.symm)
  have u := UF.of_upd u0
  generalize wr.setCells YB 0 V'.toList = W at s u ⊢
  have lo := h.lo
  have fr : ∀ b, Frx S D YB O b → b < wr.heap.size → ¬ (b = YB ∨ b = YB) ∧ Frx S D YB O b := fun b hb _ => ⟨fun e => by rcases e with e | e <;> exact hb.2.2.1 e, hb⟩
  exact ⟨St_same h.st (u.block S h.st.ltS (fun e => by omega)) (u.block D h.st.row.lt (fun e => by omega)), h.c0, below_uf h.bel (Nat.le_refl _) u (fun b hb => by rcases hb with rfl | rfl <;> exact lo.2.2.1), h.mp, h.ok, h.ii, lo, h.ak.keep u.size (fun k hk => u.block k (h.ak.ins.2.2 k hk) (fun e => by have := h.ap k hk; rcases e with e | e <;> exact this.2.2.2 e)), h.ap, ⟨s, r.uf u fr⟩, row_uf2 h.rd u fr, h.aw, aw', wn', h.ww, h.wwx⟩
theorem ZP.begin2 {w W : World} (hb : Below w.heap.size w W) (hY : w.heap.size ≤ YB) (nb : W.heap[YB]? = some (.cells V 64 (0, 0))) (hs : St w S D L cc) (c0 : 0 ≤ cc) (bel : Below w7.heap.size w7 w) (mp : Lay.IsMap w7 N c) (ok : OkC c) (ii : 0 ≤ i ∧ i < c.mr) (lo : w7.heap.size ≤ S ∧ w7.heap.size ≤ D) (ak : ZKM w X O Dp c N i m) (ap : ∀ b, Dp b → w7.heap.size ≤ b ∧ b ≠ S ∧ b ≠ D)
    (ra : ZV (fun _ => False) W c i mx V) (rd : ReadsW (Fry S D O) w R L) (aw : ZW c t m) (awx : ZW c t mx) (wn : mx.pc = 5 → mx.c.won = false) (ww : WW L) :
    ZP S D N X YB c i w7 W O Dp V m mx L L R cc t := by
  have u := UF.of_below (F := fun _ => False) hb
  have hS := hs.ltS; have hD := hs.row.lt; have hz := bel.size
  have fr : ∀ b, Fry S D O b → b < w.heap.size → ¬ False ∧ Frx S D YB O b := fun b hf hlt => ⟨fun f => f, hf.1, hf.2.1, by omega, hf.2.2⟩
  refine ⟨hs.below hb, c0, below_step bel hz hb, mp, ok, ii, ⟨lo.1, lo.2, by omega, by omega, by omega⟩, ak.below hb, fun b hb2 => ?_, ⟨nb, ra.uf (UF.refl (fun _ => False) _) (fun b f => f.elim)⟩, row_uf2 rd u fr, aw, awx, wn, ww, ww⟩
  have := ap b hb2
  have := ak.ins.2.2 b hb2
  exact ⟨by omega, by omega, by omega, by omega⟩
end
def Ok45 (V : Array Value) : Prop := V.size = 45 ∧ V.all (·.oneCell') = true
theorem ZV.ok {Q : Nat → Prop} {w : World} {c : Cfg} {i : Int} {m : Zm} {V : Array Value} (h : ZV Q w c i m V) : Ok45 V := ⟨h.size, h.one⟩
def row45 (w : World) (B : Nat) : Array Value := match w.heap[B]? with | some (.cells V _ _) => V | _ => #[]
def Is45 (w : World) (B : Nat) : Prop := ∃ V, w.heap[B]? = some (.cells V 64 (0, 0)) ∧ Ok45 V
def new45w (w : World) (V : Array Value) : World := (w.alloc (.cells zero45 64)).setCells w.heap.size 0 V.toList
def set45w (w : World) (B : Nat) (V : Array Value) : World := w.setCells B 0 V.toList
@[go_sem ↓ high] theorem sem_newc45 {w : World} {V : Array Value} (h : Ok45 V) : (storeCells ⟨w.heap.size, 0, none⟩ V.toList).run Tryz.prog (w.alloc (.cells #[.int .i64 0, .int .i64 0, .int .i64 0, .int .i64 0, .int .u64 0, .int .i64 0, .int .i64 0, .int .i64 0, .int .i64 0, .int .i64 0, .int .u64 0, .int .u64 0, .bool false, .int .i64 0, .int .u64 0, .int .i64 0, .int .i64 0, .int .i64 0, .int .i64 0, .int .i64 0, .int .i64 0, .int .u64 0, .int .u64 0, .int .u64 0, .bool false, .int .i64 0, .int .i64 0, .int .i64 0, .slice none 0 0, .int .i64 0, .int .i64 0, .int .i64 0, .int .i64 0, .int .i64 0, .slice none 0 0, .int .u32 0, .int .u64 0, .int .u32 0, .int .i64 0, .bool false, .int .i64 0, .int .i64 0, .int .i64 0, .int .i64 0, .int .i64 0] 64)) = .ok () (new45w w V) := by
  have t := there_sub 0 45 (Go.heap_alloc_new w (.cells zero45 64)) (by decide)
  have e := run_storeCells_cells (P := Tryz.prog) w.heap.size 0 V.toList 0 (w.alloc (.cells zero45 64))
    (fun j hj => by simpa using (t j (by have := h.1; simp at hj; omega)).1)
    (fun j hj => by simpa using (t j (by have := h.1; simp at hj; omega)).2)
    (fun v hv => (Array.all_eq_true_iff_forall_mem.1 h.2) v (by simpa using hv))
  simpa [new45w] using e
@[go_sem ↓ high] theorem sem_setc45 {w : World} {B : Nat} {V : Array Value} (h : Is45 w B) (hv : Ok45 V) : (storeCells ⟨B, 0, none⟩ V.toList).run Tryz.prog w = .ok () (set45w w B V) := by
  obtain ⟨U, hb, h1, h2⟩ := h
  have t := there_sub 0 45 hb (by omega)
  have e := run_storeCells_cells (P := Tryz.prog) B 0 V.toList 0 w
    (fun j hj => by simpa using (t j (by have := hv.1; simp at hj; omega)).1)
    (fun j hj => by simpa using (t j (by have := hv.1; simp at hj; omega)).2)
    (fun v hq => (Array.all_eq_true_iff_forall_mem.1 hv.2) v (by simpa using hq))
  simpa [set45w] using e
theorem new45_row {w : World} {V : Array Value} (h : Ok45 V) : (new45w w V).heap[w.heap.size]? = some (.cells V 64 (0, 0)) := (row_all (U := V) (Go.heap_alloc_new w (.cells zero45 64)) (by rw [h.1]; rfl)).1
theorem new45_below {w : World} {V : Array Value} (h : Ok45 V) : Below w.heap.size w (new45w w V) := by
  have u := (row_all (U := V) (Go.heap_alloc_new w (.cells zero45 64)) (by rw [h.1]; rfl)).2
  exact below_uf (below_alloc0 (Below.refl _ _) _) (Nat.le_refl _) (UF.of_upd u) (fun k e => by rcases e with e | e <;> exact Nat.le_of_eq e.symm)
theorem set45_upd {w : World} {B : Nat} {V : Array Value} (h : Is45 w B) (hv : Ok45 V) : (set45w w B V).heap[B]? = some (.cells V 64 (0, 0)) ∧ Upd B B w (set45w w B V) := by
  obtain ⟨U, hb, h1, h2⟩ := h
  exact row_all (U := V) hb (h1.trans hv.1.symm)
theorem set45_below {lo : Nat} {w0 w : World} {B : Nat} {V : Array Value} (hb : Below lo w0 w) (h0 : lo ≤ w0.heap.size) (hB : lo ≤ B) (h : Is45 w B) (hv : Ok45 V) : Below lo w0 (set45w w B V) :=
  below_uf hb h0 (UF.of_upd (set45_upd h hv).2) (fun k e => by rcases e with rfl | rfl <;> exact hB)
theorem is45_new {w : World} : Is45 (w.alloc (.cells zero45 64)) w.heap.size :=
  ⟨_, Go.heap_alloc_new w _, rfl, by simp only [List.all_toArray, List.all_cons, List.all_nil, Value.oneCell', Bool.and_self]⟩
theorem Is45.below {w w' : World} {B : Nat} (h : Is45 w B) (hb : Below w.heap.size w w') : Is45 w' B := by
  obtain ⟨V, h1, h2⟩ := h
  exact ⟨V, (hb.block B (Array.getElem?_eq_some_iff.1 h1).1).trans h1, h2⟩
theorem Is45.drew {w : World} {B : Nat} (h : Is45 w B) : Is45 w.drew B := h
theorem is45 {w : World} {B : Nat} {V : Array Value} (h : w.heap[B]? = some (.cells V 64 (0, 0))) (hv : Ok45 V) : Is45 w B ∧ row45 w B = V := ⟨⟨V, h, hv⟩, by unfold row45; rw [h]⟩
section
variable {S D N X YB : Nat} {c : Cfg} {i : Int} {w7 wr w' : World} {O Dp : Nat → Prop} {V : Array Value} {m mx : Zm} {L LR : List Int} {R : Option Addr} {cc t : Int}
theorem ZP.box (h : ZP S D N X YB c i w7 wr O Dp V m mx L LR R cc t) : Is45 wr YB ∧ row45 wr YB = V := is45 h.ym.bx h.ym.v.ok
end
theorem zw_begin {c : Cfg} {tk cy : Int} (h0 : 0 ≤ tk) (h1 : tk ≤ 18446744073709551615) (c0 : 0 ≤ cy) (c1 : cy ≤ 18446744073709551615) (d : Cm) (a : Am) : ZW c 0 (zNew (tk / 4294967296) (tk % 4294967296) cy d a) := by
  refine ⟨by simp [zNew], ⟨by simp only [zNew]; omega, by simp only [zNew]; omega⟩, ⟨by simp only [zNew]; omega, by simp only [zNew]; omega⟩, ⟨c0, c1⟩, by simp [zNew], by simp [zNew], fun e => by simp [zNew] at e, by simp [zNew], fun e => by simp [zNew] at e, fun e => by simp [zNew] at e, Int.le_refl _⟩
end Go.Proofs.YtpocihddecemfaaGreat

namespace Go.Proofs.YtpocihddecemfaaGreat
open Go.RowKit
set_option linter.unusedVariables false
set_option linter.unusedSimpArgs false
set_option maxRecDepth 100000
open Lay (plcc plc shOf packN nodesN OkC Cfg Norm firstV Rep lenL slotsOf kindV)
theorem row_words {w : World} {F : Option Addr} {n cap : Nat} {z : List Int} (h : IsRow .u64 w F n cap z) : ∃ fs : List Int, n = fs.length ∧ Reads .u64 w F fs ∧ (∀ x ∈ fs, 0 ≤ x ∧ x ≤ 18446744073709551615) ∧ n ≤ maxLen := by
  obtain ⟨a, b, c, d, e, f⟩ := reads_row h
  refine ⟨z.take n, b.symm, a, fun x hx => ?_, by omega⟩
  have := f x hx
  simp [Lit.wf, IntKind.min, IntKind.max, IntKind.bits, IntKind.signed] at this; omega
end Go.Proofs.YtpocihddecemfaaGreat

namespace Go.Proofs.YtpocihddecemfaaGreat
open Go.RowKit
set_option linter.unusedVariables false
set_option linter.unusedSimpArgs false
set_option maxRecDepth 100000
open Lay (plcc plc shOf packN nodesN OkC Cfg Norm firstV Rep lenL slotsOf kindV)
section
variable {o : Option Nat} {w w' : World} {v : Value} {l : List Int}
end
section
variable {B S D N : Nat} {c : Cfg} {w0 w w' : World} {X : Nat} {mk : Int} {k : Zk} {L : List Int} {i : Int} {A : Nat} {m : Zm} {s : Int} {K : List Int} {P : Int → Prop} {rk cnt : Int} {Fo Fo' : Nat → Prop}
theorem new_zy (h : PO B S D N c w0 w L cnt) (i tk cy : Int) (h0 : 0 ≤ tk) (h1 : tk ≤ 18446744073709551615) (c0 : Cm) (d0 : Am) :
    Calls Tryz.prog 14 #[Lay.mapP N, .int .i64 i, .int .u64 tk, .int .u64 cy] w fun e w' => ∃ X, e = .returned (ptr X) ∧ (∃ O Dp, ZKM w' X O Dp c N i (zNew (tk / 4294967296) (tk % 4294967296) cy c0 d0) ∧ ∀ b, Dp b → w.heap.size ≤ b) ∧ PO B S D N c w0 w' L cnt ∧ Below w.heap.size w w' := by
  refine (newZ_map N i tk cy h0 h1 w).mono ?_
  rintro e w' ⟨X, rfl, hX, hz, hb⟩
  have hl := h.lt
  exact ⟨X, rfl, ⟨fun k => k = X, fun k => k = X, zkm_new hz (by omega) c0 d0, fun b e => by omega⟩, h.step hb, hb⟩
end
end Go.Proofs.YtpocihddecemfaaGreat

namespace Go.Proofs.YtpocihddecemfaaGreat
open Go.RowKit
set_option linter.unusedVariables false
set_option linter.unusedSimpArgs false
set_option maxRecDepth 100000
open Lay (plcc plc shOf packN nodesN OkC Cfg Norm firstV Rep lenL slotsOf kindV)
theorem len_7000 {c : Cfg} (hc : OkC c) : lenL (shOf c) ≤ 7000 := by have := Lay.lenL_eq hc; have := (Lay.bds hc).t55'; omega
section
variable {B S D N X WB : Nat} {c : Cfg} {k : Zk} {o o2 : Option Nat} {v v2 v2' : Value} {l L0 G G' L K : List Int} {w w' w0 : World} {i s rk cnt : Int} {A : Nat} {m : Zm}
end
end Go.Proofs.YtpocihddecemfaaGreat
