/- A step of the document's own packet machines, as the one over words. A packets' machine, a store, and the document's own beside them. -/
import Derived.Test.YtbpfkhpnfkbacaaGreatRefPs
import Derived.Test.YtbpfkhpnfkbacaaGreatJ21
namespace Go.Proofs.YtbpfkhpnfkbacaaGreat
open Go.RowKit
set_option linter.unusedVariables false
set_option linter.unusedSimpArgs false
set_option maxRecDepth 100000
open Lay (plcc plc shOf packN nodesN OkC Cfg Norm firstV Rep lenL things)

theorem rpstep_any {c : Cfg} (hc : OkC c) {t : Int} (Q : Nat → Prop) (A : Option Addr) (n cap : Nat) (R : Option Addr) (n' capR : Nat) (L : List Int) (m : Pm) (v : Value) (w : World)
    (hA : IsA w c A n) (hn : n' = L.length) (hn2 : n' ≤ 1000000) (hR : ReadsW Q w R L) (hQ : ∀ b, w.heap.size ≤ b → Q b) (hv : RPm Q w m v) (wm : PW c t m) (ww : WW L) (ht : t ≤ 900000000) :
    Calls Tryz.prog 21 #[aVal A n cap (packN c), .slice R n' capR, v] w (SomePs Q w n' (pstp (gOf c) L m).1 (pstp (gOf c) L m).2) := by
  obtain ⟨T, tn, tc, LA, ln, lc, rfl, h1, h2, h3, h4, h5, h6⟩ := hv
  obtain ⟨kd, pc, ts, j, p, x⟩ := m
  have hpc : pc ≤ 4 := wm.pc
  have hp : 0 ≤ p ∧ p ≤ 4294967295 := wm.p
  have htl : ts.length ≤ 4 := wm.tl
  have hj := wm.j
  have hb1 := (Lay.bds hc).p1
  dsimp only at h1 h2 h3 h4 hj
  have hll : (lnkL c).length ≤ 1000000 := by rw [lnk_len]; omega
  obtain ⟨L', y, hy⟩ : ∃ L' y, sstp L x = (L', y) := ⟨_, _, rfl⟩
  have hk : y.k = x.k := by have := sstp_k L x; rw [hy] at this; exact this
  have hcase : pc = 0 ∨ pc = 1 ∨ pc = 2 ∨ pc = 3 ∨ pc = 4 := by omega
  rcases hcase with rfl | rfl | rfl | rfl | rfl
  · have e : pstp (gOf c) L ⟨kd, 0, ts, j, p, x⟩ = (L, ⟨kd, 0, ts, j, p, x⟩) := by simp [pstp]
    rw [e]
    exact rps_0 Q A n cap (packN c) R n' capR L kd ts j p x T tn tc LA ln lc w hR h1 h2 h3 h4 h5 h6
  · obtain ⟨wx, kx, kk, px⟩ := wm.x1 rfl
    dsimp only at wx kx kk px
    have hln : ln ≤ 1000000 := by rw [h3, kx]; exact hll
    have yi := (wx.step ww).i
    rw [hy] at yi
    by_cases hp : y.pc = 0
    · by_cases hi : y.item = 0
      · have e : pstp (gOf c) L ⟨kd, 1, ts, j, p, x⟩ = (L', ⟨kd, 1, ts, j, 0, mPop (spK c)⟩) := by simp [pstp, hy, hp, hi]; rfl
        rw [e]
        exact rps_no1 hc Q A n cap R n' capR L L' kd ts j p x y T tn tc LA ln lc w hA hn hn2 hR hQ h1 h2 h3 h4 hln wx ww (by omega) hy hk yi hp hi h5 h6
      · have e : pstp (gOf c) L ⟨kd, 1, ts, j, p, x⟩ = (L', ⟨kd, 2, ts, j, y.item, y⟩) := by simp [pstp, hy, hp, hi]
        rw [e]
        exact rps_end1 hc Q A n cap R n' capR L L' kd ts j p x y T tn tc LA ln lc w hA hn hn2 hR hQ h1 h2 h3 h4 hln wx ww (by omega) hy hk yi hp hi h5 h6
    · have e : pstp (gOf c) L ⟨kd, 1, ts, j, p, x⟩ = (L', ⟨kd, 1, ts, j, p, y⟩) := by simp [pstp, hy, hp]
      rw [e]
      exact rps_on1 hc Q A n cap R n' capR L L' kd ts j p x y T tn tc LA ln lc w hA hn hn2 hR hQ h1 h2 h3 h4 hln wx ww (by omega) hy hk yi hp h5 h6
  · obtain ⟨jn, rfl⟩ := Int.eq_ofNat_of_zero_le hj.1
    have hjl := hj.2.2 rfl
    by_cases he : jn + 1 = ts.length
    · have e : pstp (gOf c) L ⟨kd, 2, ts, (jn : Int), p, x⟩ = (ptq L (plcc c 13 p (jn : Int)) (ts.getD jn 0), ⟨kd, 3, ts, (jn : Int) + 1, p, x⟩) := by
        have : ((jn : Int) + 1 = (ts.length : Int)) := by omega
        unfold pstp; simp only [if_pos this]; rfl
      rw [e]
      exact rps_put_end Q A n cap R n' capR L kd ts jn p x T tn tc LA ln lc w hA hn hn2 hR hQ h1 h2 h3 h4 (by omega) (by omega) (by omega) h5 h6
    · have e : pstp (gOf c) L ⟨kd, 2, ts, (jn : Int), p, x⟩ = (ptq L (plcc c 13 p (jn : Int)) (ts.getD jn 0), ⟨kd, 2, ts, (jn : Int) + 1, p, x⟩) := by
        have : ¬ ((jn : Int) + 1 = (ts.length : Int)) := by omega
        unfold pstp; simp only [if_neg this]; rfl
      rw [e]
      exact rps_put_on Q A n cap R n' capR L kd ts jn p x T tn tc LA ln lc w hA hn hn2 hR hQ h1 h2 h3 h4 (by omega) (by omega) (by omega) h5 h6
  · have e : pstp (gOf c) L ⟨kd, 3, ts, j, p, x⟩ = (ptq L (plcc c 11 p 0) (ts.length : Int), ⟨kd, 4, ts, j, p, mPush (poK c) p⟩) := by simp [pstp, gOf]
    rw [e]
    exact rps_many hc Q A n cap R n' capR L kd ts j p x T tn tc LA ln lc w hA hn hn2 hR hQ h1 h2 (by omega) hp h5 h6
  · obtain ⟨wx, kx, px⟩ := wm.x4 rfl
    dsimp only at wx kx px
    have hln : ln ≤ 1000000 := by rw [h3, kx]; exact hll
    have yi := (wx.step ww).i
    rw [hy] at yi
    by_cases hp : y.pc = 0
    · have e : pstp (gOf c) L ⟨kd, 4, ts, j, p, x⟩ = (L', ⟨kd, 0, ts, j, y.item, y⟩) := by simp [pstp, hy, hp]
      rw [e]
      exact rps_end4 hc Q A n cap R n' capR L L' kd ts j p x y T tn tc LA ln lc w hA hn hn2 hR hQ h1 h2 h3 h4 hln wx ww (by omega) hy hk yi hp h5 h6
    · have e : pstp (gOf c) L ⟨kd, 4, ts, j, p, x⟩ = (L', ⟨kd, 4, ts, j, p, y⟩) := by simp [pstp, hy, hp]
      rw [e]
      exact rps_on4 hc Q A n cap R n' capR L L' kd ts j p x y T tn tc LA ln lc w hA hn hn2 hR hQ h1 h2 h3 h4 hln wx ww (by omega) hy hk yi hp h5 h6
end Go.Proofs.YtbpfkhpnfkbacaaGreat

namespace Go.Proofs.YtbpfkhpnfkbacaaGreat
open Go.RowKit
set_option linter.unusedVariables false
set_option linter.unusedSimpArgs false
open Lay (plcc plc shOf packN nodesN OkC Cfg Norm firstV Rep lenL things)
attribute [local irreducible] pruns

/-- Blocks that are none of these. -/
def Fr4 (S D YB : Nat) (O : Nat → Prop) (b : Nat) : Prop := b ≠ S ∧ b ≠ D ∧ b ≠ YB ∧ ¬ O b
/-- A row of integers in such a block. -/
def ReadsK (k : IntKind) (P : Nat → Prop) (w : World) (A : Option Addr) (zs : List Int) : Prop :=
  0 < zs.length → ∃ b off, A = some ⟨b, off, none⟩ ∧ b < w.heap.size ∧ P b ∧ ∀ j, j < zs.length → w.cell? ⟨b, off + j, none⟩ = some (.int k (zs.getD j 0))
theorem ReadsK.reads {k : IntKind} {P : Nat → Prop} {w : World} {A : Option Addr} {zs : List Int} (h : ReadsK k P w A zs) : Reads k w A zs := fun h0 => by
  obtain ⟨b, off, e, hlt, _, hc⟩ := h h0
  exact ⟨b, off, e, hlt, hc⟩
theorem ReadsK.of {k : IntKind} {P : Nat → Prop} {w : World} {A : Option Addr} {zs : List Int} (h : Reads k w A zs) (hP : 0 < zs.length → ∀ a, A = some a → P a.block) : ReadsK k P w A zs := fun h0 => by
  obtain ⟨b, off, e, hlt, hc⟩ := h h0
  exact ⟨b, off, e, hlt, hP h0 _ e, hc⟩
theorem ReadsK.pv {k : IntKind} {P : Nat → Prop} {w : World} {A : Option Addr} {zs : List Int} (h : ReadsK k P w A zs) : 0 < zs.length → ∀ a, A = some a → P a.block := fun h0 a e => by
  obtain ⟨b, off, e2, _, hp, _⟩ := h h0
  rw [e2] at e; cases e; exact hp
theorem ReadsK.uf {k : IntKind} {P Q : Nat → Prop} {F : Nat → Prop} {w w' : World} {A : Option Addr} {zs : List Int} (h : ReadsK k P w A zs) (u : UF F w w') (hP : ∀ b, P b → b < w.heap.size → ¬ F b ∧ Q b) : ReadsK k Q w' A zs := fun h0 => by
  obtain ⟨b, off, e, hlt, hp, hc⟩ := h h0
  have := hP b hp hlt
  exact ⟨b, off, e, Nat.lt_of_lt_of_le hlt u.size, this.2, fun j hj => (World.cell?_of_block (w := w) (a := ⟨b, off + j, none⟩) (u.block b hlt this.1)).trans (hc j hj)⟩
theorem ReadsW.toK {P : Nat → Prop} {w : World} {A : Option Addr} {zs : List Int} (h : ReadsW P w A zs) : ReadsK .u64 P w A zs := h
theorem ReadsK.toW {P : Nat → Prop} {w : World} {A : Option Addr} {zs : List Int} (h : ReadsK .u64 P w A zs) : ReadsW P w A zs := h

/-- The document's machine in its box, and its rows. -/
structure YM (P : Nat → Prop) (wr : World) (YB : Nat) (T : Option Addr) (tn tc : Nat) (A : Option Addr) (n cap : Nat) (mx : Pm) : Prop where
  bx : wr.heap[YB]? = some (.cells #[.int .i64 mx.kind, .int .i64 mx.pc, .slice T tn tc, .int .i64 mx.j, .int .i64 mx.p, .int .i64 mx.x.kind, .int .i64 mx.x.pc, .int .i64 mx.x.k.head, .slice A n cap, .int .u32 mx.x.item, .int .u64 mx.x.h, .int .u32 mx.x.link, .int .i64 mx.x.tries] 53 (0, 0))
  tl : tn = mx.ts.length
  tr : ReadsK .u64 P wr T mx.ts
  al : n = mx.x.k.links.length
  ar : ReadsK .i64 P wr A mx.x.k.links
/-- All of it. -/
structure SP (S D N X YB : Nat) (c : Cfg) (w7 wr : World) (O Dp : Nat → Prop) (T : Option Addr) (tn tc : Nat) (A : Option Addr) (n cap : Nat) (m mx : Pm) (L LR : List Int) (R : Option Addr) (cc t : Int) : Prop where
  st : St wr S D L cc
  c0 : 0 ≤ cc
  bel : Below w7.heap.size w7 wr
  mp : Lay.IsMap w7 N c
  ok : OkC c
  lo : w7.heap.size ≤ S ∧ w7.heap.size ≤ D ∧ w7.heap.size ≤ YB ∧ YB ≠ S ∧ YB ≠ D
  pk : PKM wr X O Dp c N m
  ap : ∀ b, Dp b → w7.heap.size ≤ b ∧ b ≠ S ∧ b ≠ D ∧ b ≠ YB
  ym : YM (Fr4 S D YB O) wr YB T tn tc A n cap mx
  rd : ReadsK .u64 (Fr4 S D YB O) wr R LR
  pw : PW c t m
  pwx : PW c t mx
  ww : WW L
  wwx : WW LR
section
variable {S D N X YB : Nat} {c : Cfg} {w7 wr w' : World} {O Dp : Nat → Prop} {T : Option Addr} {tn tc : Nat} {A : Option Addr} {n cap : Nat} {m mx : Pm} {L LR : List Int} {R : Option Addr} {cc t : Int}
theorem YM.uf {P Q : Nat → Prop} {F : Nat → Prop} (h : YM P wr YB T tn tc A n cap mx) (u : UF F wr w') (hY : ¬ F YB) (hP : ∀ b, P b → b < wr.heap.size → ¬ F b ∧ Q b) : YM Q w' YB T tn tc A n cap mx :=
  ⟨(u.block YB (Array.getElem?_eq_some_iff.1 h.bx).1 hY).trans h.bx, h.tl, h.tr.uf u hP, h.al, h.ar.uf u hP⟩
theorem ReadsK.below {k : IntKind} {P : Nat → Prop} {zs : List Int} {B : Option Addr} (h : ReadsK k P wr B zs) (hb : Below wr.heap.size wr w') : ReadsK k P w' B zs := h.uf (UF.of_below (F := fun _ => False) hb) (fun b hb _ => ⟨fun f => f, hb⟩)
theorem SP.mpw (h : SP S D N X YB c w7 wr O Dp T tn tc A n cap m mx L LR R cc t) : Lay.IsMap wr N c ∧ N < w7.heap.size := ⟨h.mp.below h.bel, h.mp.1⟩
theorem SP.below (h : SP S D N X YB c w7 wr O Dp T tn tc A n cap m mx L LR R cc t) (hb : Below wr.heap.size wr w') : SP S D N X YB c w7 w' O Dp T tn tc A n cap m mx L LR R cc t :=
  ⟨h.st.below hb, h.c0, below_step h.bel h.bel.size hb, h.mp, h.ok, h.lo, h.pk.keep hb.size (fun k hk => hb.block k (h.pk.ins.2.2 k hk)), h.ap, h.ym.uf (UF.of_below (F := fun _ => False) hb) (fun f => f) (fun b hb _ => ⟨fun f => f, hb⟩), h.rd.below hb, h.pw, h.pwx, h.ww, h.wwx⟩
theorem SP.far (h : SP S D N X YB c w7 wr O Dp T tn tc A n cap m mx L LR R cc t) : ∀ b, wr.heap.size ≤ b → Fr4 S D YB O b := fun b hb => by
  have := h.st.ltS; have := h.st.row.lt; have := (Array.getElem?_eq_some_iff.1 h.ym.bx).1
  exact ⟨by omega, by omega, by omega, fun ho => by have := h.pk.ins.2.2 b (h.pk.ins.2.1 b ho); omega⟩
theorem SP.count (h : SP S D N X YB c w7 wr O Dp T tn tc A n cap m mx L LR R cc t) : Calls Tryz.prog 19 #[ptr S] wr fun a w' => a = .returned (.int .i64 cc) ∧ wr = w' := cnt_any wr h.st
theorem SP.packet (h : SP S D N X YB c w7 wr O Dp T tn tc A n cap m mx L LR R cc t) : Calls Tryz.prog 22 #[ptr X] wr fun e w' => e = .returned (.int .i64 (pPacket m)) ∧ wr = w' := packet_pk h.pk h.pw
theorem SP.all (h : SP S D N X YB c w7 wr O Dp T tn tc A n cap m mx L LR R cc t) (hl : L.length ≤ 1000000) :
    Calls Tryz.prog 13 #[ptr S] wr fun a w' => a = .returned (.slice (some ⟨wr.heap.size, 0, none⟩) L.length L.length) ∧ Reads .u64 w' (some ⟨wr.heap.size, 0, none⟩) L ∧ SP S D N X YB c w7 w' O Dp T tn tc A n cap m mx L LR R cc t := by
  refine (all_any wr h.st hl).mono ?_
  rintro a w1 ⟨rfl, hr, hb⟩
  exact ⟨rfl, hr.reads, h.below hb⟩
/-- What it is as a value. -/
theorem SP.val (h : SP S D N X YB c w7 wr O Dp T tn tc A n cap m mx L LR R cc t) : RPm (Fr4 S D YB O) wr mx (pmVm mx T tn tc A n cap) := ⟨T, tn, tc, A, n, cap, rfl, h.ym.tl, h.ym.tr.reads, h.ym.al, h.ym.ar.reads, h.ym.tr.pv, h.ym.ar.pv⟩
/-- The program's step. -/
theorem SP.stepM (h : SP S D N X YB c w7 wr O Dp T tn tc A n cap m mx L LR R cc t) (hc : cc ≤ 800000000) (ht : t ≤ 800000000) :
    Calls Tryz.prog 20 #[ptr X, ptr S] wr fun e w' => e = .returned (.bool (decide ((pstp (gOf c) L m).2.pc = 0))) ∧ ∃ O' D', SP S D N X YB c w7 w' O' D' T tn tc A n cap (pstp (gOf c) L m).2 mx (pstp (gOf c) L m).1 LR R (pcost m cc) (t + 1) := by
  have hm := h.mpw
  have lo := h.lo
  have hc0 := h.c0
  have p2 := h.ap
  refine (step_pk h.ok h.pk h.st hm.1 (fun hd => (p2 _ hd).2.1 rfl) (fun hd => (p2 _ hd).2.2.1 rfl) (fun ho => by have := p2 _ (h.pk.ins.2.1 _ ho); omega) (by omega) (by omega) h.pw h.ww hc0 (by omega) (by omega)).mono ?_
  rintro e w1 ⟨rfl, ⟨O', D', hp', ho', hd'⟩, hs', u⟩
  have hO : ∀ b, O b → w7.heap.size ≤ b ∧ b ≠ S ∧ b ≠ D ∧ b ≠ YB := fun b hb => p2 b (h.pk.ins.2.1 b hb)
  have hsz := h.bel.size
  have hyb := (Array.getElem?_eq_some_iff.1 h.ym.bx).1
  have hS := h.st.ltS
  have hD := h.st.row.lt
  have fr : ∀ b, Fr4 S D YB O b → b < wr.heap.size → ¬ (b = S ∨ b = D ∨ O b) ∧ Fr4 S D YB O' b := fun b hb hlt => by
    refine ⟨fun e => by rcases e with e | e | e; exact hb.1 e; exact hb.2.1 e; exact hb.2.2.2 e, hb.1, hb.2.1, hb.2.2.1, fun ho => ?_⟩
    rcases ho' b ho with x | x
    · exact hb.2.2.2 x
    · omega
  have pw' := h.pw.step h.ww
  refine ⟨rfl, O', D', hs', ?_, below_uf h.bel (Nat.le_refl _) u (fun b hb => ?_), h.mp, h.ok, lo, hp', fun b hb => ?_, h.ym.uf u (fun e => ?_) fr, h.rd.uf u fr, pw'.1, h.pwx.mono (by omega), pw'.2, h.wwx⟩
  · unfold pcost; split <;> omega
  · rcases hb with rfl | rfl | hb
    · exact lo.1
    · exact lo.2.1
    · exact (hO b hb).1
  · rcases hd' b hb with x | x
    · exact p2 b x
    · exact ⟨by omega, by omega, by omega, by omega⟩
  · rcases e with e | e | e
    · exact lo.2.2.2.1 e
    · exact lo.2.2.2.2 e
    · exact (hO _ e).2.2.2 rfl
/-- Another one changes a word. -/
theorem SP.poke (h : SP S D N X YB c w7 wr O Dp T tn tc A n cap m mx L LR R cc t) (p v : Int) (hv : 0 ≤ v ∧ v ≤ 18446744073709551615) (hc : cc ≤ 900000000) :
    Calls Tryz.prog 25 #[ptr S, .int .i64 p, .int .u64 v] wr fun e w' => e = .returned (.tuple #[]) ∧ SP S D N X YB c w7 w' O Dp T tn tc A n cap m mx (ptq L p v) LR R (cc + 1) t := by
  have lo := h.lo
  have hc0 := h.c0
  have p2 := h.ap
  refine (put_any p v wr h.st hc0 (by omega)).mono ?_
  rintro e w1 ⟨rfl, l⟩
  rw [ptv_eq] at l
  have u := UF.of_upd l.2
  have fr : ∀ b, Fr4 S D YB O b → b < wr.heap.size → ¬ (b = S ∨ b = D) ∧ Fr4 S D YB O b := fun b hb hlt => ⟨fun e => by rcases e with e | e; exact hb.1 e; exact hb.2.1 e, hb⟩
  exact ⟨rfl, l.1, by omega, below_uf h.bel (Nat.le_refl _) u (fun b hb => by rcases hb with rfl | rfl; exact lo.1; exact lo.2.1), h.mp, h.ok, lo, h.pk.keep u.size (fun k hk => u.block k (h.pk.ins.2.2 k hk) (fun e => by have := p2 k hk; rcases e with e | e; exact this.2.1 e; exact this.2.2.1 e)), p2, h.ym.uf u (fun e => by rcases e with e | e; exact lo.2.2.2.1 e; exact lo.2.2.2.2 e) fr, h.rd.uf u fr, h.pw, h.pwx, h.ww.put _ hv, h.wwx⟩
/-- The document's memory is another one. -/
theorem SP.newR {R' : Option Addr} {L' : List Int} (h : SP S D N X YB c w7 wr O Dp T tn tc A n cap m mx L LR R cc t) (hb : Below wr.heap.size wr w') (hr : ReadsW (Fr4 S D YB O) w' R' L') (ww : WW L') : SP S D N X YB c w7 w' O Dp T tn tc A n cap m mx L L' R' cc t := by
  have h' := h.below hb
  exact ⟨h'.st, h'.c0, h'.bel, h'.mp, h'.ok, h'.lo, h'.pk, h'.ap, h'.ym, hr.toK, h'.pw, h'.pwx, h'.ww, ww⟩
/-- Rows of a machine of the document that is not in its box yet. -/
structure RW4 (P : Nat → Prop) (wr : World) (T : Option Addr) (tn : Nat) (A : Option Addr) (n : Nat) (mx : Pm) : Prop where
  tl : tn = mx.ts.length
  tr : ReadsK .u64 P wr T mx.ts
  al : n = mx.x.k.links.length
  ar : ReadsK .i64 P wr A mx.x.k.links
theorem RW4.below {P : Nat → Prop} (h : RW4 P wr T tn A n mx) (hb : Below wr.heap.size wr w') : RW4 P w' T tn A n mx := ⟨h.tl, h.tr.below hb, h.al, h.ar.below hb⟩
theorem RPm.rows {P : Nat → Prop} {v : Value} (h : RPm P wr mx v) : ∃ T tn tc A n cap, v = pmVm mx T tn tc A n cap ∧ RW4 P wr T tn A n mx := by
  obtain ⟨T, tn, tc, A, n, cap, e, h1, h2, h3, h4, h5, h6⟩ := h
  exact ⟨T, tn, tc, A, n, cap, e, h1, .of h2 h5, h3, .of h4 h6⟩
/-- It is laid into its box. -/
theorem SP.putY {m' : Pm} {T' : Option Addr} {tn' tc' : Nat} {A' : Option Addr} {n' cap' : Nat} (h : SP S D N X YB c w7 wr O Dp T tn tc A n cap m mx L LR R cc t) (r : RW4 (Fr4 S D YB O) wr T' tn' A' n' m') (pw' : PW c t m') :
    SP S D N X YB c w7 (put13 wr YB (.int .i64 m'.kind) (.int .i64 m'.pc) (.slice T' tn' tc') (.int .i64 m'.j) (.int .i64 m'.p) (.int .i64 m'.x.kind) (.int .i64 m'.x.pc) (.int .i64 m'.x.k.head) (.slice A' n' cap') (.int .u32 m'.x.item) (.int .u64 m'.x.h) (.int .u32 m'.x.link) (.int .i64 m'.x.tries)) O Dp T' tn' tc' A' n' cap' m m' L LR R cc t := by
  have u := UF.of_upd (put13_upd wr YB (.int .i64 m'.kind) (.int .i64 m'.pc) (.slice T' tn' tc') (.int .i64 m'.j) (.int .i64 m'.p) (.int .i64 m'.x.kind) (.int .i64 m'.x.pc) (.int .i64 m'.x.k.head) (.slice A' n' cap') (.int .u32 m'.x.item) (.int .u64 m'.x.h) (.int .u32 m'.x.link) (.int .i64 m'.x.tries))
  have s := put13_same wr YB 53 _ _ _ _ _ _ _ _ _ _ _ _ _ h.ym.bx (.int .i64 m'.kind) (.int .i64 m'.pc) (.slice T' tn' tc') (.int .i64 m'.j) (.int .i64 m'.p) (.int .i64 m'.x.kind) (.int .i64 m'.x.pc) (.int .i64 m'.x.k.head) (.slice A' n' cap') (.int .u32 m'.x.item) (.int .u64 m'.x.h) (.int .u32 m'.x.link) (.int .i64 m'.x.tries)
  obtain ⟨W, hW⟩ : ∃ W, W = (put13 wr YB (.int .i64 m'.kind) (.int .i64 m'.pc) (.slice T' tn' tc') (.int .i64 m'.j) (.int .i64 m'.p) (.int .i64 m'.x.kind) (.int .i64 m'.x.pc) (.int .i64 m'.x.k.head) (.slice A' n' cap') (.int .u32 m'.x.item) (.int .u64 m'.x.h) (.int .u32 m'.x.link) (.int .i64 m'.x.tries)) := ⟨_, rfl⟩
  rw [← hW] at u s ⊢
  have lo := h.lo
  have fr : ∀ b, Fr4 S D YB O b → b < wr.heap.size → ¬ (b = YB ∨ b = YB) ∧ Fr4 S D YB O b := fun b hb _ => ⟨fun e => by rcases e with e | e <;> exact hb.2.2.1 e, hb⟩
  exact ⟨St_same h.st (u.block S h.st.ltS (fun e => by omega)) (u.block D h.st.row.lt (fun e => by omega)), h.c0, below_uf h.bel (Nat.le_refl _) u (fun b hb => by rcases hb with rfl | rfl <;> exact lo.2.2.1), h.mp, h.ok, lo, h.pk.keep u.size (fun k hk => u.block k (h.pk.ins.2.2 k hk) (fun e => by have := h.ap k hk; rcases e with e | e <;> exact this.2.2.2 e)), h.ap, ⟨s, r.tl, r.tr.uf u fr, r.al, r.ar.uf u fr⟩, h.rd.uf u fr, h.pw, pw', h.ww, h.wwx⟩
/-- Another machine is begun. -/
theorem SP.newM {m' : Pm} {X' : Nat} {O' D' : Nat → Prop} (h : SP S D N X YB c w7 wr O Dp T tn tc A n cap m mx L LR R cc t) (hb : Below wr.heap.size wr w') (hp : PKM w' X' O' D' c N m') (hD : ∀ b, D' b → wr.heap.size ≤ b) (pw' : PW c t m') : SP S D N X' YB c w7 w' O' D' T tn tc A n cap m' mx L LR R cc t := by
  have h' := h.below hb
  have hsz := h.bel.size
  have hS := h.st.ltS; have hD0 := h.st.row.lt; have hyb := (Array.getElem?_eq_some_iff.1 h.ym.bx).1
  have u := UF.of_below (F := fun _ => False) hb
  have fr : ∀ b, Fr4 S D YB O b → b < wr.heap.size → ¬ False ∧ Fr4 S D YB O' b := fun b hb2 hlt => ⟨fun f => f, hb2.1, hb2.2.1, hb2.2.2.1, fun ho => by have := hD b (hp.ins.2.1 b ho); omega⟩
  exact ⟨h'.st, h'.c0, h'.bel, h'.mp, h'.ok, h'.lo, hp, fun b hb2 => by have := hD b hb2; exact ⟨by omega, by omega, by omega, by omega⟩, h.ym.uf u (fun f => f) fr, h.rd.uf u fr, pw', h'.pwx, h'.ww, h'.wwx⟩
/-- Blocks that are none of these, ahead of the box. -/
def Fr3 (S D : Nat) (O : Nat → Prop) (b : Nat) : Prop := b ≠ S ∧ b ≠ D ∧ ¬ O b
/-- All begins: the document's machine is laid into a new box. -/
theorem SP.begin {w : World} (hs : St w S D L cc) (c0 : 0 ≤ cc) (bel : Below w7.heap.size w7 w) (mp : Lay.IsMap w7 N c) (ok : OkC c) (lo : w7.heap.size ≤ S ∧ w7.heap.size ≤ D) (pk : PKM w X O Dp c N m) (ap : ∀ b, Dp b → w7.heap.size ≤ b ∧ b ≠ S ∧ b ≠ D)
    (r : RW4 (Fr3 S D O) w T tn A n m) (rd : ReadsK .u64 (Fr3 S D O) w R L) (pw : PW c 0 m) (ww : WW L) :
    SP S D N X w.heap.size c w7 (w.alloc (.cells #[.int .i64 m.kind, .int .i64 m.pc, .slice T tn tc, .int .i64 m.j, .int .i64 m.p, .int .i64 m.x.kind, .int .i64 m.x.pc, .int .i64 m.x.k.head, .slice A n cap, .int .u32 m.x.item, .int .u64 m.x.h, .int .u32 m.x.link, .int .i64 m.x.tries] 53)) O Dp T tn tc A n cap m m L L R cc 0 := by
  obtain ⟨o, ho⟩ : ∃ o, o = Obj.cells #[.int .i64 m.kind, .int .i64 m.pc, .slice T tn tc, .int .i64 m.j, .int .i64 m.p, .int .i64 m.x.kind, .int .i64 m.x.pc, .int .i64 m.x.k.head, .slice A n cap, .int .u32 m.x.item, .int .u64 m.x.h, .int .u32 m.x.link, .int .i64 m.x.tries] 53 := ⟨_, rfl⟩
  have hb := below_alloc0 (Below.refl w.heap.size w) o
  have u := UF.of_below (F := fun _ => False) hb
  have hS := hs.ltS; have hD := hs.row.lt; have hz := bel.size
  have fr : ∀ b, Fr3 S D O b → b < w.heap.size → ¬ False ∧ Fr4 S D w.heap.size O b := fun b hf hlt => ⟨fun f => f, hf.1, hf.2.1, by omega, hf.2.2⟩
  have nb : (w.alloc o).heap[w.heap.size]? = some o := Array.getElem?_push_size
  rw [← ho]
  refine ⟨hs.below hb, c0, below_step bel hz hb, mp, ok, ⟨lo.1, lo.2, hz, by omega, by omega⟩, pk.keep hb.size (fun k hk => hb.block k (pk.ins.2.2 k hk)), fun b hb2 => ?_, ⟨by rw [nb, ho], r.tl, r.tr.uf u fr, r.al, r.ar.uf u fr⟩, rd.uf u fr, pw, pw, ww, ww⟩
  have := ap b hb2
  have := pk.ins.2.2 b hb2
  exact ⟨by omega, by omega, by omega, by omega⟩
end
end Go.Proofs.YtbpfkhpnfkbacaaGreat
