/- A step of the document's own part that is swept is one over words. A part that is swept, a store, and the document's own beside them. -/
import Derived.Test.YtbpkcoemehmpbaaGreatSwS0
import Derived.Test.YtbpkcoemehmpbaaGreatSwS3
import Derived.Test.YtbpkcoemehmpbaaGreatSwS4
import Derived.Test.YtbpkcoemehmpbaaGreatSwS5
import Derived.Test.YtbpkcoemehmpbaaGreatSwS6
import Derived.Test.YtbpkcoemehmpbaaGreatSwS7
import Derived.Test.YtbpkcoemehmpbaaGreatSwQ
import Derived.Test.YtbpkcoemehmpbaaGreatJ22
import Derived.Test.YtbpkcoemehmpbaaGreatJ1
namespace Go.Proofs.YtbpkcoemehmpbaaGreat
open Go.RowKit
set_option linter.unusedVariables false
open Lay (plcc plc shOf packN nodesN OkC Cfg Norm firstV Rep lenL things partsC roomsI kindV)

theorem rwstep_any {c : Cfg} (hc : OkC c) {t : Int} (Q : Nat → Prop) (A : Option Addr) (n cap : Nat) (P : Int) (R : Option Addr) (n' capR : Nat) (L : List Int) (m : Wn) (V : Array Value) (w : World) (hA : IsA w c A n) (hn : n' = L.length) (hn2 : n' ≤ 1000000) (hR : ReadsW Q w R L) (hQ : ∀ b, w.heap.size ≤ b → Q b) (h : ZV Q w m V) (wm : WKW c t m) (ww : WW L) (ht : t ≤ 900000000) :
    Calls Tryz.prog 17 #[aVal A n cap P, Lay.cfgV c, .slice R n' capR, .agg V] w (SomeZ Q w n' (wstp (wOf c) L m).1 (wstp (wOf c) L m).2) := by
  have hpc := wm.pc
  have hn1 := (Lay.bds hc).n1
  have hp : m.pc = 0 ∨ m.pc = 1 ∨ m.pc = 2 ∨ m.pc = 3 ∨ m.pc = 4 ∨ m.pc = 5 ∨ m.pc = 6 ∨ m.pc = 7 := by omega
  rcases hp with p | p | p | p | p | p | p | p
  · have e : wstp (wOf c) L m = (L, wq m) := by simp [wstp, p]
    rw [e]
    exact rws_0 hc Q A n cap P R n' capR L m V w hA hn hn2 hR hQ h ww p
  · have e : wstp (wOf c) L m = (L, { wq m with w := ldq L 2, pc := if hiw (ldq L 2) = m.cy % 4294967296 ∧ low (ldq L 2) < partsC c then 2 else 0 }) := by
      rw [← parts_is hc, ← sweep2 c]
      unfold wstp; rw [if_pos p]; rfl
    rw [e]
    refine rws_1 hc Q A n cap P R n' capR L m V w hA hn hn2 hR hQ h ww p _ _ fun Q' W V0 hr hq hv => ?_
    refine (rtake1 hc Q' R n' capR L (wq m) V0 W hn hr.reads hv wm.cy wm.w ww p).mono ?_
    rintro e w' ⟨V', rfl, hv', hb⟩
    exact ⟨R, capR, V', rfl, hr.below hb, hv', hb⟩
  · by_cases hx : (0 ≤ (2 : Int) ∧ (2 : Int) < L.length) ∧ L.getD (2 : Int).toNat 0 = m.w
    · have e : wstp (wOf c) L m = (ptq L 2 (m.w + 1), wgo { wq m with part := low m.w, last := wmin ((low m.w + 1) * c.sw) (nodesN c) } (low m.w * c.sw + 1)) := by
        have hs2 : (wOf c).sw = 2 := sweep2 c
        unfold wstp; rw [if_neg (by omega), if_pos p, hs2, if_pos hx]; rfl
      rw [e]
      refine rws_2 hc Q A n cap P R n' capR L m V w hA hn hn2 hR hQ h ww p _ _ fun Q' W V0 hr hq hv => ?_
      exact rtake2_yes hc Q' R n' capR L (wq m) V0 W hn hn2 hr hq hv wm.w (wm.p2 p) p ((swB_iff ..).2 hx)
    · have e : wstp (wOf c) L m = (L, { wq m with pc := 0 }) := by
        have hs2 : (wOf c).sw = 2 := sweep2 c
        unfold wstp; rw [if_neg (by omega), if_pos p, hs2, if_neg hx]
      have hb : swB L 2 m.w = false := by
        cases hb : swB L 2 m.w with
        | false => rfl
        | true => exact absurd ((swB_iff ..).1 hb) hx
      rw [e]
      refine rws_2 hc Q A n cap P R n' capR L m V w hA hn hn2 hR hQ h ww p _ _ fun Q' W V0 hr hq hv => ?_
      exact rtake2_no hc Q' R n' capR L (wq m) V0 W hn hn2 hr hq hv wm.w (wm.p2 p) p hb
  · have hv := wm.v (by omega) (by omega)
    have hl := wm.la
    have e : wstp (wOf c) L m = (L, if ldq L (plcc c 15 m.v 0) = 1 then { wq m with pc := 4 } else wgo (wq m) (m.v + 1)) := by
      simp [wstp, p]; rfl
    rw [e]
    exact rws_3 hc Q A n cap P R n' capR L m V w hA hn hn2 hR hQ h ww p (by omega)
  · have hv := wm.v (by omega) (by omega)
    have hl := wm.la
    have e : wstp (wOf c) L m = (L, if ldq L (plcc c 16 m.v 0) < m.cy then { wq m with pc := 5 } else wgo (wq m) (m.v + 1)) := by
      simp [wstp, p]; rfl
    rw [e]
    exact rws_4 hc Q A n cap P R n' capR L m V w hA hn hn2 hR hQ h ww p (by omega)
  · have hv := wm.v (by omega) (by omega)
    have hl := wm.la
    have e : wstp (wOf c) L m = (ptq L (plcc c 15 m.v 0) 0, { m with ek := 5, ea := m.v, x := mPush ⟨plcc c 7 (kindV c m.v) 0, nxtL c⟩ m.v, pc := 6 }) := by
      have := hk_is hc hv.1 (by omega : m.v ≤ nodesN c)
      simp only [wstp, p]
      rw [this]; rfl
    rw [e]
    exact rws_5 hc Q A n cap P R n' capR L m V w hA hn hn2 hR hQ h ww p ⟨hv.1, by omega⟩
  · have hv := wm.v (by omega) (by omega)
    have hl := wm.la
    have e : wstp (wOf c) L m = ((sstp L m.x).1, if (sstp L m.x).2.pc = 0 then wgo { wq m with x := (sstp L m.x).2 } (m.v + 1) else { wq m with x := (sstp L m.x).2 }) := by simp [wstp, p]
    rw [e]
    exact rws_6 hc Q A n cap P R n' capR L m V w hA hn hn2 hR hQ h ww p (by omega) (wm.x p).1 ht
  · have e : wstp (wOf c) L m = (ptq L 3 ((ldq L 3 + 1) % 18446744073709551616), { m with ek := 6, ea := m.part, pc := 0 }) := by
      rw [← done3 c]
      simp [wstp, p]; rfl
    rw [e]
    exact rws_7 hc Q A n cap P R n' capR L m V w hA hn hn2 hR hQ h ww p
end Go.Proofs.YtbpkcoemehmpbaaGreat

namespace Go.Proofs.YtbpkcoemehmpbaaGreat
open Go.RowKit
set_option linter.unusedVariables false
set_option linter.unusedSimpArgs false
set_option linter.unnecessarySimpa false
set_option maxRecDepth 100000
open Lay (plcc plc shOf packN nodesN OkC Cfg Norm firstV Rep lenL things)

/-- None of the blocks of a store, of a box, of a machine. -/
def Frx (S D YB : Nat) (O : Nat → Prop) (b : Nat) : Prop := b ≠ S ∧ b ≠ D ∧ b ≠ YB ∧ ¬ O b
def Fry (S D : Nat) (O : Nat → Prop) (b : Nat) : Prop := b ≠ S ∧ b ≠ D ∧ ¬ O b
theorem reads_fry {S D : Nat} {O : Nat → Prop} {wr w10 w11 : World} {L : List Int} (hr : Reads .u64 w10 (some ⟨wr.heap.size, 0, none⟩) L) (hb : Below w10.heap.size w10 w11) (hS : S < wr.heap.size) (hD : D < wr.heap.size) (hO : ∀ b, O b → w10.heap.size ≤ b) :
    ReadsW (Fry S D O) w11 (some ⟨wr.heap.size, 0, none⟩) L := fun h0 => by
  obtain ⟨b, off, e, hlt, hc⟩ := hr h0
  injection e with e; injection e with e1 e2 _
  subst e1; subst e2
  exact ⟨wr.heap.size, 0, rfl, Nat.lt_of_lt_of_le hlt hb.size, ⟨by omega, by omega, fun ho => by have := hO _ ho; omega⟩, fun j hj => (World.cell?_of_block (w := w10) (a := ⟨wr.heap.size, 0 + j, none⟩) (hb.block _ hlt)).trans (hc j hj)⟩
/-- The document's machine in its box. -/
structure YZ (P : Nat → Prop) (w : World) (YB : Nat) (mx : Wn) (V : Array Value) : Prop where
  bx : w.heap[YB]? = some (.cells V 55 (0, 0))
  v : ZV P w mx V
theorem YZ.uf {P Q : Nat → Prop} {F : Nat → Prop} {w w' : World} {YB : Nat} {mx : Wn} {V : Array Value} (h : YZ P w YB mx V) (u : UF F w w') (hY : ¬ F YB) (hP : ∀ b, P b → b < w.heap.size → ¬ F b ∧ Q b) : YZ Q w' YB mx V :=
  ⟨(u.block YB (Array.getElem?_eq_some_iff.1 h.bx).1 hY).trans h.bx, h.v.uf u hP⟩
/-- All of it. -/
structure ZP (S D N X YB : Nat) (c : Cfg) (w7 wr : World) (O Dp : Nat → Prop) (V : Array Value) (m mx : Wn) (L LR : List Int) (R : Option Addr) (cc t : Int) : Prop where
  st : St wr S D L cc
  c0 : 0 ≤ cc
  bel : Below w7.heap.size w7 wr
  mp : Lay.IsMap w7 N c
  ok : OkC c
  lo : w7.heap.size ≤ S ∧ w7.heap.size ≤ D ∧ w7.heap.size ≤ YB ∧ YB ≠ S ∧ YB ≠ D
  ak : WKM wr X O Dp N m
  ap : ∀ b, Dp b → w7.heap.size ≤ b ∧ b ≠ S ∧ b ≠ D ∧ b ≠ YB
  ym : YZ (Frx S D YB O) wr YB mx V
  rd : ReadsW (Frx S D YB O) wr R LR
  aw : WKW c t m
  awx : WKW c t mx
  ww : WW L
  wwx : WW LR
section
variable {S D N X YB : Nat} {c : Cfg} {w7 wr w' : World} {O Dp : Nat → Prop} {V : Array Value} {m mx : Wn} {L LR : List Int} {R : Option Addr} {cc t : Int}
theorem ZP.ltY (h : ZP S D N X YB c w7 wr O Dp V m mx L LR R cc t) : YB < wr.heap.size := (Array.getElem?_eq_some_iff.1 h.ym.bx).1
theorem ZP.mpw (h : ZP S D N X YB c w7 wr O Dp V m mx L LR R cc t) : Lay.IsMap wr N c ∧ N < w7.heap.size := ⟨h.mp.below h.bel, h.mp.1⟩
theorem ZP.below (h : ZP S D N X YB c w7 wr O Dp V m mx L LR R cc t) (hb : Below wr.heap.size wr w') : ZP S D N X YB c w7 w' O Dp V m mx L LR R cc t := by
  have u := UF.of_below (F := fun _ => False) hb
  exact ⟨h.st.below hb, h.c0, below_step h.bel h.bel.size hb, h.mp, h.ok, h.lo, h.ak.below hb, h.ap, h.ym.uf u (fun f => f) (fun b hb _ => ⟨fun f => f, hb⟩), h.rd.below hb, h.aw, h.awx, h.ww, h.wwx⟩
theorem ZP.far (h : ZP S D N X YB c w7 wr O Dp V m mx L LR R cc t) : ∀ b, wr.heap.size ≤ b → Frx S D YB O b := fun b hb => by
  have := h.st.ltS; have := h.st.row.lt; have := h.ltY
  exact ⟨by omega, by omega, by omega, fun ho => by have := h.ak.ins.2.2 b (h.ak.ins.2.1 b ho); omega⟩
theorem ZP.cells (h : ZP S D N X YB c w7 wr O Dp V m mx L LR R cc t) : wr.cell? ⟨YB, 0, none⟩ = some (.int .i64 mx.pc) ∧ wr.cell? ⟨YB, 3, none⟩ = some (.int .i64 mx.part) ∧ wr.cell? ⟨YB, 14, none⟩ = some (.int .i64 mx.ek) ∧ wr.cell? ⟨YB, 15, none⟩ = some (.int .i64 0) ∧ wr.cell? ⟨YB, 16, none⟩ = some (.int .i64 mx.ea) ∧ wr.cell? ⟨YB, 17, none⟩ = some (.int .i64 0) ∧ wr.cell? ⟨YB, 18, none⟩ = some (.int .i64 0) := by
  have b := h.ym.bx; have v := h.ym.v
  exact ⟨(row_get b 0).trans v.c0, (row_get b 3).trans v.c3, (row_get b 14).trans v.e0, (row_get b 15).trans v.e1, (row_get b 16).trans v.e2, (row_get b 17).trans v.e3, (row_get b 18).trans v.e4⟩
theorem ZP.count (h : ZP S D N X YB c w7 wr O Dp V m mx L LR R cc t) : Calls Tryz.prog 15 #[ptr S] wr fun a w' => a = .returned (.int .i64 cc) ∧ wr = w' := cnt_any wr h.st
theorem ZP.event (h : ZP S D N X YB c w7 wr O Dp V m mx L LR R cc t) : Calls Tryz.prog 19 #[ptr X] wr fun e w' => e = .returned (evA m.ek m.ea) ∧ ZP S D N X YB c w7 w' O Dp V m mx L LR R cc t :=
  (h.ak.event).mono fun _ _ ⟨a, b⟩ => ⟨a, h.below b⟩
theorem ZP.partM (h : ZP S D N X YB c w7 wr O Dp V m mx L LR R cc t) : Calls Tryz.prog 18 #[ptr X] wr fun e w' => e = .returned (.int .i64 m.part) ∧ wr = w' := h.ak.part
theorem ZP.all (h : ZP S D N X YB c w7 wr O Dp V m mx L LR R cc t) (hl : L.length ≤ 1000000) :
    Calls Tryz.prog 10 #[ptr S] wr fun a w' => a = .returned (.slice (some ⟨wr.heap.size, 0, none⟩) L.length L.length) ∧ Reads .u64 w' (some ⟨wr.heap.size, 0, none⟩) L ∧ ZP S D N X YB c w7 w' O Dp V m mx L LR R cc t := by
  refine (all_any wr h.st hl).mono ?_
  rintro a w1 ⟨rfl, hr, hb⟩
  exact ⟨rfl, hr.reads, h.below hb⟩
/-- The program's step. -/
theorem ZP.stepM (h : ZP S D N X YB c w7 wr O Dp V m mx L LR R cc t) (hc : cc ≤ 800000000) (ht : t ≤ 800000000) :
    Calls Tryz.prog 16 #[ptr X, ptr S] wr fun e w' => e = .returned (.bool (decide ((wstp (wOf c) L m).2.pc = 0))) ∧ ∃ O' D', ZP S D N X YB c w7 w' O' D' V (wstp (wOf c) L m).2 mx (wstp (wOf c) L m).1 LR R (wcost m cc) (t + 1) := by
  have hm := h.mpw
  have lo := h.lo
  have hc0 := h.c0
  have p2 := h.ap
  refine (step_wk h.ok h.ak h.st hm.1 (fun hd => (p2 _ hd).2.1 rfl) (fun hd => (p2 _ hd).2.2.1 rfl) (fun ho => by have := p2 _ (h.ak.ins.2.1 _ ho); omega) (by omega) (by omega) h.aw h.ww hc0 (by omega) (by omega)).mono ?_
  rintro e w1 ⟨rfl, ⟨O', D', hp', ho', hd'⟩, hs', u⟩
  have hO : ∀ b, O b → w7.heap.size ≤ b ∧ b ≠ S ∧ b ≠ D ∧ b ≠ YB := fun b hb => p2 b (h.ak.ins.2.1 b hb)
  have hsz := h.bel.size
  have hyb := h.ltY
  have hS := h.st.ltS
  have hD := h.st.row.lt
  have fr : ∀ b, Frx S D YB O b → b < wr.heap.size → ¬ (b = S ∨ b = D ∨ O b) ∧ Frx S D YB O' b := fun b hb hlt => by
    refine ⟨fun e => by rcases e with e | e | e; exact hb.1 e; exact hb.2.1 e; exact hb.2.2.2 e, hb.1, hb.2.1, hb.2.2.1, fun ho => ?_⟩
    rcases ho' b ho with x | x
    · exact hb.2.2.2 x
    · omega
  have aw' := h.aw.step h.ok h.ww
  refine ⟨rfl, O', D', hs', ?_, below_uf h.bel (Nat.le_refl _) u (fun b hb => ?_), h.mp, h.ok, lo, hp', fun b hb => ?_, h.ym.uf u (fun e => ?_) fr, row_uf2 h.rd u fr, aw'.1, h.awx.mono (by omega), aw'.2, h.wwx⟩
  · unfold wcost; split <;> omega
  · rcases hb with rfl | rfl | hb
    · exact lo.1
    · exact lo.2.1
    · exact (hO b hb).1
  · rcases hd' b hb with x | x
    · exact p2 b x
    · exact ⟨by omega, by omega, by omega, by omega⟩
  · rcases e with e | e | e
    · exact lo.2.2.2.1 e
    · exact lo.2.2.2.2 e
    · exact (hO _ e).2.2.2 rfl
/-- Another one changes a word. -/
theorem ZP.poke (h : ZP S D N X YB c w7 wr O Dp V m mx L LR R cc t) (p v : Int) (hv : 0 ≤ v ∧ v ≤ 18446744073709551615) (hc : cc ≤ 900000000) :
    Calls Tryz.prog 13 #[ptr S, .int .i64 p, .int .u64 v] wr fun e w' => e = .returned (.tuple #[]) ∧ ZP S D N X YB c w7 w' O Dp V m mx (ptq L p v) LR R (cc + 1) t := by
  have lo := h.lo
  have hc0 := h.c0
  have p2 := h.ap
  refine (put_any p v wr h.st hc0 (by omega)).mono ?_
  rintro e w1 ⟨rfl, l⟩
  rw [ptv_eq] at l
  have u := UF.of_upd l.2
  have fr : ∀ b, Frx S D YB O b → b < wr.heap.size → ¬ (b = S ∨ b = D) ∧ Frx S D YB O b := fun b hb hlt => ⟨fun e => by rcases e with e | e; exact hb.1 e; exact hb.2.1 e, hb⟩
  exact ⟨rfl, l.1, by omega, below_uf h.bel (Nat.le_refl _) u (fun b hb => by rcases hb with rfl | rfl; exact lo.1; exact lo.2.1), h.mp, h.ok, lo, h.ak.keep u.size (fun k hk => u.block k (h.ak.ins.2.2 k hk) (fun e => by have := p2 k hk; rcases e with e | e; exact this.2.1 e; exact this.2.2.1 e)), p2, h.ym.uf u (fun e => by rcases e with e | e; exact lo.2.2.2.1 e; exact lo.2.2.2.2 e) fr, row_uf2 h.rd u fr, h.aw, h.awx, h.ww.put _ hv, h.wwx⟩
/-- The document's memory is another one. -/
theorem ZP.newR {R' : Option Addr} {L' : List Int} (h : ZP S D N X YB c w7 wr O Dp V m mx L LR R cc t) (hb : Below wr.heap.size wr w') (hr : ReadsW (Frx S D YB O) w' R' L') (ww : WW L') : ZP S D N X YB c w7 w' O Dp V m mx L L' R' cc t := by
  have h' := h.below hb
  exact ⟨h'.st, h'.c0, h'.bel, h'.mp, h'.ok, h'.lo, h'.ak, h'.ap, h'.ym, hr, h'.aw, h'.awx, h'.ww, ww⟩
/-- The document's machine is laid into its box. -/
theorem ZP.putY {m' : Wn} {V' : Array Value} (h : ZP S D N X YB c w7 wr O Dp V m mx L LR R cc t) (r : ZV (Frx S D YB O) wr m' V') (aw' : WKW c t m') :
    ZP S D N X YB c w7 (wr.setCells YB 0 V'.toList) O Dp V' m m' L LR R cc t := by
  obtain ⟨s, u0⟩ := row_all (U := V') h.ym.bx (h.ym.v.size.trans r.size.symm)
  have u := UF.of_upd u0
  generalize wr.setCells YB 0 V'.toList = W at s u ⊢
  have lo := h.lo
  have fr : ∀ b, Frx S D YB O b → b < wr.heap.size → ¬ (b = YB ∨ b = YB) ∧ Frx S D YB O b := fun b hb _ => ⟨fun e => by rcases e with e | e <;> exact hb.2.2.1 e, hb⟩
  exact ⟨St_same h.st (u.block S h.st.ltS (fun e => by omega)) (u.block D h.st.row.lt (fun e => by omega)), h.c0, below_uf h.bel (Nat.le_refl _) u (fun b hb => by rcases hb with rfl | rfl <;> exact lo.2.2.1), h.mp, h.ok, lo, h.ak.keep u.size (fun k hk => u.block k (h.ak.ins.2.2 k hk) (fun e => by have := h.ap k hk; rcases e with e | e <;> exact this.2.2.2 e)), h.ap, ⟨s, r.uf u fr⟩, row_uf2 h.rd u fr, h.aw, aw', h.ww, h.wwx⟩
/-- All begins, wherever the box has come to stand. -/
theorem ZP.begin2 {w W : World} (hb : Below w.heap.size w W) (hY : w.heap.size ≤ YB) (nb : W.heap[YB]? = some (.cells V 55 (0, 0))) (hs : St w S D L cc) (c0 : 0 ≤ cc) (bel : Below w7.heap.size w7 w) (mp : Lay.IsMap w7 N c) (ok : OkC c) (lo : w7.heap.size ≤ S ∧ w7.heap.size ≤ D) (ak : WKM w X O Dp N m) (ap : ∀ b, Dp b → w7.heap.size ≤ b ∧ b ≠ S ∧ b ≠ D)
    (ra : ZV (fun _ => False) W mx V) (rd : ReadsW (Fry S D O) w R L) (aw : WKW c t m) (awx : WKW c t mx) (ww : WW L) :
    ZP S D N X YB c w7 W O Dp V m mx L L R cc t := by
  have u := UF.of_below (F := fun _ => False) hb
  have hS := hs.ltS; have hD := hs.row.lt; have hz := bel.size
  have fr : ∀ b, Fry S D O b → b < w.heap.size → ¬ False ∧ Frx S D YB O b := fun b hf hlt => ⟨fun f => f, hf.1, hf.2.1, by omega, hf.2.2⟩
  refine ⟨hs.below hb, c0, below_step bel hz hb, mp, ok, ⟨lo.1, lo.2, by omega, by omega, by omega⟩, ak.below hb, fun b hb2 => ?_, ⟨nb, ra.uf (UF.refl (fun _ => False) _) (fun b f => f.elim)⟩, row_uf2 rd u fr, aw, awx, ww, ww⟩
  have := ap b hb2
  have := ak.ins.2.2 b hb2
  exact ⟨by omega, by omega, by omega, by omega⟩
end
/-! The box as a whole. -/
/-- Cells that make a whole row. -/
def Ok19 (V : Array Value) : Prop := V.size = 19 ∧ V.all (·.oneCell') = true
theorem ZV.ok {Q : Nat → Prop} {w : World} {m : Wn} {V : Array Value} (h : ZV Q w m V) : Ok19 V := ⟨h.size, h.one⟩
def row19 (w : World) (B : Nat) : Array Value := match w.heap[B]? with | some (.cells V _ _) => V | _ => #[]
def Is19 (w : World) (B : Nat) : Prop := ∃ V, w.heap[B]? = some (.cells V 55 (0, 0)) ∧ Ok19 V
def new19w (w : World) (V : Array Value) : World := (w.alloc (.cells zero19 55)).setCells w.heap.size 0 V.toList
def set19w (w : World) (B : Nat) (V : Array Value) : World := w.setCells B 0 V.toList
@[go_sem ↓ high] theorem sem_load19 {w : World} {B : Nat} (h : Is19 w B) : (Instr.loadAt 55 (.pointer (some ⟨B, 0, none⟩))).run Tryz.prog w = .ok (.agg (row19 w B)) w := by
  obtain ⟨V, hb, h1, h2⟩ := h
  have e : row19 w B = V := by unfold row19; rw [hb]
  rw [e]
  have e := run_loadAt_mid (P := Tryz.prog) w B 0 55 V.toList _ (rng_all hb) row64.choose_spec.1 row64.choose_spec.2 (by rw [show V.toList.length = 19 from by simpa using h1]; kernel_rfl)
  simpa using e
@[go_sem ↓ high] theorem sem_loadc19 {w : World} {B : Nat} (h : Is19 w B) : (loadCells ⟨B, 0, none⟩ 19).run Tryz.prog w = .ok (row19 w B) w := by
  obtain ⟨V, hb, h1, h2⟩ := h
  have e : row19 w B = V := by unfold row19; rw [hb]
  rw [e]
  have e := run_loadCells_list (P := Tryz.prog) w ⟨B, 0, none⟩ V.toList (fun j v hv => by rw [Addr.add_mid]; exact rng_all hb j v hv)
  simpa [h1] using e
@[go_sem ↓ high] theorem sem_new19 {w : World} {V : Array Value} (h : Ok19 V) : (Instr.storeAt 55 (.pointer (some ⟨w.heap.size, 0, none⟩)) (.agg V)).run Tryz.prog (w.alloc (.cells #[.int .i64 0, .int .u64 0, .int .u64 0, .int .i64 0, .int .i64 0, .int .i64 0, .int .i64 0, .int .i64 0, .int .i64 0, .slice none 0 0, .int .u32 0, .int .u64 0, .int .u32 0, .int .i64 0, .int .i64 0, .int .i64 0, .int .i64 0, .int .i64 0, .int .i64 0] 55)) = .ok () (new19w w V) :=
  run_storeAt_mid (P := Tryz.prog) _ w.heap.size 0 55 V (by rw [h.1]; exact there_sub 0 19 (Go.heap_alloc_new w (.cells zero19 55)) (by decide)) (by rw [h.1]; kernel_rfl) h.2
@[go_sem ↓ high] theorem sem_newc19 {w : World} {V : Array Value} (h : Ok19 V) : (storeCells ⟨w.heap.size, 0, none⟩ V.toList).run Tryz.prog (w.alloc (.cells #[.int .i64 0, .int .u64 0, .int .u64 0, .int .i64 0, .int .i64 0, .int .i64 0, .int .i64 0, .int .i64 0, .int .i64 0, .slice none 0 0, .int .u32 0, .int .u64 0, .int .u32 0, .int .i64 0, .int .i64 0, .int .i64 0, .int .i64 0, .int .i64 0, .int .i64 0] 55)) = .ok () (new19w w V) := by
  have t := there_sub 0 19 (Go.heap_alloc_new w (.cells zero19 55)) (by decide)
  have e := run_storeCells_cells (P := Tryz.prog) w.heap.size 0 V.toList 0 (w.alloc (.cells zero19 55))
    (fun j hj => by simpa using (t j (by have := h.1; simp at hj; omega)).1)
    (fun j hj => by simpa using (t j (by have := h.1; simp at hj; omega)).2)
    (fun v hv => (Array.all_eq_true_iff_forall_mem.1 h.2) v (by simpa using hv))
  simpa [new19w] using e
@[go_sem ↓ high] theorem sem_setc19 {w : World} {B : Nat} {V : Array Value} (h : Is19 w B) (hv : Ok19 V) : (storeCells ⟨B, 0, none⟩ V.toList).run Tryz.prog w = .ok () (set19w w B V) := by
  obtain ⟨U, hb, h1, h2⟩ := h
  have t := there_sub 0 19 hb (by omega)
  have e := run_storeCells_cells (P := Tryz.prog) B 0 V.toList 0 w
    (fun j hj => by simpa using (t j (by have := hv.1; simp at hj; omega)).1)
    (fun j hj => by simpa using (t j (by have := hv.1; simp at hj; omega)).2)
    (fun v hq => (Array.all_eq_true_iff_forall_mem.1 hv.2) v (by simpa using hq))
  simpa [set19w] using e
@[go_sem ↓ high] theorem sem_set19 {w : World} {B : Nat} {V : Array Value} (h : Is19 w B) (hv : Ok19 V) : (Instr.storeAt 55 (.pointer (some ⟨B, 0, none⟩)) (.agg V)).run Tryz.prog w = .ok () (set19w w B V) := by
  obtain ⟨U, hb, h1, h2⟩ := h
  exact run_storeAt_mid (P := Tryz.prog) w B 0 55 V (by rw [hv.1]; exact there_sub 0 19 hb (by omega)) (by rw [hv.1]; kernel_rfl) hv.2
theorem new19_row {w : World} {V : Array Value} (h : Ok19 V) : (new19w w V).heap[w.heap.size]? = some (.cells V 55 (0, 0)) := (row_all (U := V) (Go.heap_alloc_new w (.cells zero19 55)) (by rw [h.1]; rfl)).1
theorem new19_below {w : World} {V : Array Value} (h : Ok19 V) : Below w.heap.size w (new19w w V) := by
  have u := (row_all (U := V) (Go.heap_alloc_new w (.cells zero19 55)) (by rw [h.1]; rfl)).2
  exact below_uf (below_alloc0 (Below.refl _ _) _) (Nat.le_refl _) (UF.of_upd u) (fun k e => by rcases e with e | e <;> exact Nat.le_of_eq e.symm)
theorem set19_upd {w : World} {B : Nat} {V : Array Value} (h : Is19 w B) (hv : Ok19 V) : (set19w w B V).heap[B]? = some (.cells V 55 (0, 0)) ∧ Upd B B w (set19w w B V) := by
  obtain ⟨U, hb, h1, h2⟩ := h
  exact row_all (U := V) hb (h1.trans hv.1.symm)
theorem set19_below {lo : Nat} {w0 w : World} {B : Nat} {V : Array Value} (hb : Below lo w0 w) (h0 : lo ≤ w0.heap.size) (hB : lo ≤ B) (h : Is19 w B) (hv : Ok19 V) : Below lo w0 (set19w w B V) :=
  below_uf hb h0 (UF.of_upd (set19_upd h hv).2) (fun k e => by rcases e with rfl | rfl <;> exact hB)
theorem is19_new {w : World} : Is19 (w.alloc (.cells zero19 55)) w.heap.size :=
  ⟨_, Go.heap_alloc_new w _, rfl, by simp only [List.all_toArray, List.all_cons, List.all_nil, Value.oneCell', Bool.and_self]⟩
theorem Is19.below {w w' : World} {B : Nat} (h : Is19 w B) (hb : Below w.heap.size w w') : Is19 w' B := by
  obtain ⟨V, h1, h2⟩ := h
  exact ⟨V, (hb.block B (Array.getElem?_eq_some_iff.1 h1).1).trans h1, h2⟩
theorem Is19.drew {w : World} {B : Nat} (h : Is19 w B) : Is19 w.drew B := h
theorem is19 {w : World} {B : Nat} {V : Array Value} (h : w.heap[B]? = some (.cells V 55 (0, 0))) (hv : Ok19 V) : Is19 w B ∧ row19 w B = V := ⟨⟨V, h, hv⟩, by unfold row19; rw [h]⟩
theorem ZV.none {w w' : World} {m : Wn} {V : Array Value} (h : ZV (fun _ => False) w m V) (u : UF (fun _ => True) w w') : ZV (fun _ => False) w' m V := h.uf u (fun b f => f.elim)
section
variable {S D N X YB : Nat} {c : Cfg} {w7 wr w' : World} {O Dp : Nat → Prop} {V : Array Value} {m mx : Wn} {L LR : List Int} {R : Option Addr} {cc t : Int}
theorem ZP.box (h : ZP S D N X YB c w7 wr O Dp V m mx L LR R cc t) : Is19 wr YB ∧ row19 wr YB = V := is19 h.ym.bx h.ym.v.ok
end
end Go.Proofs.YtbpkcoemehmpbaaGreat
