/-  -/
import Derived.Test.YtpocihddecemfaaGreatJ14
import Derived.Handy
import Derived.Lib.SliceRun
import Derived.BigQuiet
namespace Go.Proofs.YtpocihddecemfaaGreat
open Go.RowKit
set_option linter.unusedVariables false
set_option linter.unusedSimpArgs false
open Lay (plcc plc shOf packN nodesN OkC Cfg Norm firstV Rep lenL things)
abbrev lnkV (N : Nat) : Value := .func (.func 73) #[Lay.mapP N] #[]
abbrev subV (M : Nat) : Value := .iface 202 (ptr M)
theorem lk_of {c : Cfg} (hc : OkC c) {w : World} {N : Nat} (hm : Lay.IsMap w N c) : Lk w (lnkV N) N (lnkL c) := ⟨c, hc, hm, .inl ⟨rfl, rfl⟩⟩
theorem popSp {c : Cfg} (N : Nat) (w : World) (hl : Lk w (lnkV N) N (lnkL c)) : Calls Tryz.prog 160 #[.int .i64 (plcc c 5 0 0), lnkV N] w (NewM w (lnkV N) (mPop (spK c))) := pop_any (spK c) w hl
theorem pushPo {c : Cfg} (N : Nat) (x : Int) (w : World) (hl : Lk w (lnkV N) N (lnkL c)) (hx : -9223372036854775808 ≤ x ∧ x ≤ 9223372036854775807) : Calls Tryz.prog 177 #[.int .i64 (plcc c 4 0 0), lnkV N, .int .i64 x] w (NewM w (lnkV N) (mPush (poK c) x)) := push_any (poK c) x w hl hx
def Pmem (w : World) (X N : Nat) (T : Value) (pu tk : Int) (ot nx : Value) (pk : Int) : Prop :=
  w.heap[X]? = some (.cells #[Lay.mapP N, T, .int .i64 pu, .int .i64 tk, ot, nx, .int .i64 pk] 198 (0, 0))
structure Pxt (w0 w : World) (X N : Nat) (c : Cfg) (F : Nat → Prop) (T : Value) (pu tk : Int) (ot nx : Value) (pk : Int) : Prop where
  mem : Pmem w X N T pu tk ot nx pk
  mp : Lay.IsMap w N c
  ne : N ≠ X
  fx : F X
  u : UF F w0 w
section
variable {w0 w w' : World} {X N : Nat} {c : Cfg} {F : Nat → Prop} {T : Value} {pu tk : Int} {ot nx : Value} {pk : Int}
theorem Pmem.lt (h : Pmem w X N T pu tk ot nx pk) : X < w.heap.size := (Array.getElem?_eq_some_iff.1 h).1
theorem Pxt.lt (h : Pxt w0 w X N c F T pu tk ot nx pk) : X < w.heap.size := h.mem.lt
theorem Pxt.f (h : Pxt w0 w X N c F T pu tk ot nx pk) (j : Nat) : w.frozen? ⟨X, j, none⟩ = false := frozen_of_row w X j _ _ h.mem
theorem Pxt.c0 (h : Pxt w0 w X N c F T pu tk ot nx pk) : w.cell? ⟨X, 0, none⟩ = some (Lay.mapP N) := by have := h.mem; unfold Pmem at this; simp [World.cell?, this]
theorem Pxt.c1 (h : Pxt w0 w X N c F T pu tk ot nx pk) : w.cell? ⟨X, 1, none⟩ = some T := by have := h.mem; unfold Pmem at this; simp [World.cell?, this]
theorem Pxt.c2 (h : Pxt w0 w X N c F T pu tk ot nx pk) : w.cell? ⟨X, 2, none⟩ = some (.int .i64 pu) := by have := h.mem; unfold Pmem at this; simp [World.cell?, this]
theorem Pxt.c3 (h : Pxt w0 w X N c F T pu tk ot nx pk) : w.cell? ⟨X, 3, none⟩ = some (.int .i64 tk) := by have := h.mem; unfold Pmem at this; simp [World.cell?, this]
theorem Pxt.c4 (h : Pxt w0 w X N c F T pu tk ot nx pk) : w.cell? ⟨X, 4, none⟩ = some ot := by have := h.mem; unfold Pmem at this; simp [World.cell?, this]
theorem Pxt.c5 (h : Pxt w0 w X N c F T pu tk ot nx pk) : w.cell? ⟨X, 5, none⟩ = some nx := by have := h.mem; unfold Pmem at this; simp [World.cell?, this]
theorem Pxt.c6 (h : Pxt w0 w X N c F T pu tk ot nx pk) : w.cell? ⟨X, 6, none⟩ = some (.int .i64 pk) := by have := h.mem; unfold Pmem at this; simp [World.cell?, this]
theorem Pxt.c03 (h : Pxt w0 w X N c F T pu tk ot nx pk) : w.cell? ⟨X, 0, none⟩ = some (Lay.mapP N) ∧ w.cell? ⟨X, 2, none⟩ = some (.int .i64 pu) ∧ w.cell? ⟨X, 3, none⟩ = some (.int .i64 tk) := ⟨h.c0, h.c2, h.c3⟩
theorem Pxt.step (h : Pxt w0 w X N c F T pu tk ot nx pk) (k : Below w.heap.size w w') : Pxt w0 w' X N c F T pu tk ot nx pk :=
  ⟨(k.block X h.lt).trans h.mem, h.mp.below k, h.ne, h.fx, h.u.trans (.of_below (F := F) k) (fun _ x => x) (fun _ _ x => x)⟩
theorem Pxt.drew (h : Pxt w0 w X N c F T pu tk ot nx pk) : Pxt w0 w.drew X N c F T pu tk ot nx pk := h.step (Below.refl _ _).drew
theorem Pxt.uf {G : Nat → Prop} (h : Pxt w0 w X N c F T pu tk ot nx pk) (k : UF G w w') (g1 : ¬ G X) (g2 : ¬ G N) (g3 : ∀ b, b < w0.heap.size → G b → F b) : Pxt w0 w' X N c F T pu tk ot nx pk :=
  ⟨(k.block X h.lt g1).trans h.mem, IsMap_same h.mp k.size (k.block N h.mp.1 g2), h.ne, h.fx, h.u.trans k (fun _ x => x) g3⟩
theorem Pxt.put (h : Pxt w0 w X N c F T pu tk ot nx pk) (i : Nat) (y : Value) {T' : Value} {pu' tk' : Int} {ot' nx' : Value} {pk' : Int}
    (hh : (#[Lay.mapP N, T, .int .i64 pu, .int .i64 tk, ot, nx, .int .i64 pk] : Array Value).setIfInBounds i y = #[Lay.mapP N, T', .int .i64 pu', .int .i64 tk', ot', nx', .int .i64 pk']) :
    Pxt w0 (w.setCell ⟨X, i, none⟩ y) X N c F T' pu' tk' ot' nx' pk' := by
  refine ⟨?_, IsMap_same h.mp (by simp) (heap_setCell_other w ⟨X, i, none⟩ N y h.ne), h.ne, h.fx, h.u.trans (UF.set w X i y) (fun _ x => x) (fun b _ e => e ▸ h.fx)⟩
  unfold Pmem
  rw [heap_setCell_same w X i _ 198 _ h.mem, hh]
theorem Pxt.p2 (h : Pxt w0 w X N c F T pu tk ot nx pk) (y : Int) : Pxt w0 (w.setCell ⟨X, 2, none⟩ (.int .i64 y)) X N c F T y tk ot nx pk := h.put 2 _ rfl
theorem Pxt.p3 (h : Pxt w0 w X N c F T pu tk ot nx pk) (y : Int) : Pxt w0 (w.setCell ⟨X, 3, none⟩ (.int .i64 y)) X N c F T pu y ot nx pk := h.put 3 _ rfl
theorem Pxt.p4 (h : Pxt w0 w X N c F T pu tk ot nx pk) (y : Value) : Pxt w0 (w.setCell ⟨X, 4, none⟩ y) X N c F T pu tk y nx pk := h.put 4 _ rfl
theorem Pxt.p5 (h : Pxt w0 w X N c F T pu tk ot nx pk) (y : Value) : Pxt w0 (w.setCell ⟨X, 5, none⟩ y) X N c F T pu tk ot y pk := h.put 5 _ rfl
theorem Pxt.p6 (h : Pxt w0 w X N c F T pu tk ot nx pk) (y : Int) : Pxt w0 (w.setCell ⟨X, 6, none⟩ (.int .i64 y)) X N c F T pu tk ot nx y := h.put 6 _ rfl
end
structure Pxs (w0 w : World) (X S D N : Nat) (c : Cfg) (F : Nat → Prop) (T : Value) (pu tk : Int) (ot nx : Value) (pk : Int) (L : List Int) (cc : Int) : Prop where
  x : Pxt w0 w X N c F T pu tk ot nx pk
  st : St w S D L cc
  n : X ≠ S ∧ X ≠ D ∧ N ≠ S ∧ N ≠ D
  fs : F S ∧ F D
section
variable {w0 w w' : World} {X S D N : Nat} {c : Cfg} {F : Nat → Prop} {T : Value} {pu tk : Int} {ot nx : Value} {pk : Int} {L : List Int} {cc : Int}
theorem Pxs.step (h : Pxs w0 w X S D N c F T pu tk ot nx pk L cc) (k : Below w.heap.size w w') : Pxs w0 w' X S D N c F T pu tk ot nx pk L cc := ⟨h.x.step k, h.st.below k, h.n, h.fs⟩
theorem Pxs.drew (h : Pxs w0 w X S D N c F T pu tk ot nx pk L cc) : Pxs w0 w.drew X S D N c F T pu tk ot nx pk L cc := h.step (Below.refl _ _).drew
theorem Pxs.left (h : Pxs w0 w X S D N c F T pu tk ot nx pk L cc) {L' : List Int} {c' : Int} (k : Left S D L' c' w w') : Pxs w0 w' X S D N c F T pu tk ot nx pk L' c' :=
  ⟨h.x.uf (.of_upd k.2) (fun e => by have := h.n; omega) (fun e => by have := h.n; omega) (fun b _ e => by rcases e with rfl | rfl; exact h.fs.1; exact h.fs.2), k.1, h.n, h.fs⟩
theorem Pxs.of (h : Pxs w0 w X S D N c F T pu tk ot nx pk L cc) {T' : Value} {pu' tk' : Int} {ot' nx' : Value} {pk' : Int} (i : Nat) (y : Value) (k : Pxt w0 (w.setCell ⟨X, i, none⟩ y) X N c F T' pu' tk' ot' nx' pk') : Pxs w0 (w.setCell ⟨X, i, none⟩ y) X S D N c F T' pu' tk' ot' nx' pk' L cc :=
  ⟨k, St_same h.st (heap_setCell_other w ⟨X, i, none⟩ S y (Ne.symm h.n.1)) (heap_setCell_other w ⟨X, i, none⟩ D y (Ne.symm h.n.2.1)), h.n, h.fs⟩
theorem Pxs.p2 (h : Pxs w0 w X S D N c F T pu tk ot nx pk L cc) (y : Int) : Pxs w0 (w.setCell ⟨X, 2, none⟩ (.int .i64 y)) X S D N c F T y tk ot nx pk L cc := h.of _ _ (h.x.p2 y)
theorem Pxs.p3 (h : Pxs w0 w X S D N c F T pu tk ot nx pk L cc) (y : Int) : Pxs w0 (w.setCell ⟨X, 3, none⟩ (.int .i64 y)) X S D N c F T pu y ot nx pk L cc := h.of _ _ (h.x.p3 y)
theorem Pxs.p5 (h : Pxs w0 w X S D N c F T pu tk ot nx pk L cc) (y : Value) : Pxs w0 (w.setCell ⟨X, 5, none⟩ y) X S D N c F T pu tk ot y pk L cc := h.of _ _ (h.x.p5 y)
theorem Pxs.p6 (h : Pxs w0 w X S D N c F T pu tk ot nx pk L cc) (y : Int) : Pxs w0 (w.setCell ⟨X, 6, none⟩ (.int .i64 y)) X S D N c F T pu tk ot nx y L cc := h.of _ _ (h.x.p6 y)
theorem Pxs.more (h : Pxs w0 w X S D N c F T pu tk ot nx pk L cc) {T' : Value} {pu' tk' : Int} {ot' nx' : Value} {pk' : Int} (k : Pxt w w' X N c (fun b => b = X) T' pu' tk' ot' nx' pk') : Pxs w0 w' X S D N c F T' pu' tk' ot' nx' pk' L cc :=
  ⟨⟨k.mem, k.mp, k.ne, h.x.fx, h.x.u.trans k.u (fun _ x => x) (fun b _ e => e ▸ h.x.fx)⟩, St_same h.st (k.u.block S h.st.ltS (Ne.symm h.n.1)) (k.u.block D h.st.row.lt (Ne.symm h.n.2.1)), h.n, h.fs⟩
theorem Pxs.self (h : Pxs w0 w X S D N c F T pu tk ot nx pk L cc) : Pxt w w X N c (fun b => b = X) T pu tk ot nx pk := ⟨h.x.mem, h.x.mp, h.x.ne, rfl, .refl _ _⟩
theorem sub_step {M : Nat} {m : Sm} {t : Int} (h : Pxs w0 w X S D N c F T pu tk ot nx pk L cc) (hm : MM w M (lnkV N) m) (hl : m.k.links = lnkL c) (hM : M ≠ X ∧ M ≠ S ∧ M ≠ D ∧ M ≠ N) (fM : F M) (hc : OkC c) (wm : Wm t m) (ww : WW L) (h0 : 0 ≤ cc) (h1 : cc ≤ 1000000000) (ht : t ≤ 1000000000) :
    Calls Tryz.prog 205 #[ptr M, ptr S] w fun e w' => e = .returned (.bool (decide ((sstp L m).2.pc = 0))) ∧ Pxs w0 w' X S D N c F T pu tk ot nx pk (sstp L m).1 (cst m cc) ∧ MM w' M (lnkV N) (sstp L m).2 ∧ w.heap.size ≤ w'.heap.size := by
  refine (step_any w (hm.mi h.st (by rw [hl]; exact lk_of hc h.x.mp) hM.2.1 hM.2.2.1 ⟨Ne.symm hM.2.2.2, h.n.2.2.1, h.n.2.2.2⟩) wm ww h0 h1 ht).mono ?_
  rintro e w' ⟨rfl, mi⟩
  have u := UF.of_u3 mi.u'
  exact ⟨rfl, ⟨h.x.uf u (fun e => by have := h.n; omega) (fun e => by have := h.n; omega) (fun b _ e => by rcases e with rfl | rfl | rfl; exact fM; exact h.fs.1; exact h.fs.2), mi.st', h.n, h.fs⟩, mi.mm, mi.u'.size⟩
end
set_option maxHeartbeats 1000000 in
theorem endWith_any {w0 w : World} {X N : Nat} {c : Cfg} {F : Nat → Prop} {T : Value} {pu tk : Int} {ot nx : Value} {pk : Int} (M : Nat) (h : Pxt w0 w X N c F T pu tk ot nx pk) :
    Calls Tryz.prog 176 #[ptr X, subV M] w fun e w' => e = .returned (.tuple #[]) ∧ Pxt w0 w' X N c F T pu tk (subV M) (fnv 181 X) pk := by
  have hmf : ∀ (fn : Fn) (first cap : Array Value) (w : World), (Instr.makeFunc fn first cap).run Tryz.prog w = .ok (.func fn first cap) w := fun _ _ _ _ => rfl
  have h1 := h.p4 (subV M)
  have h2 := h1.p5 (fnv 181 X)
  have q4 := h.c4; have f4 := h.f 4
  have q5 := h1.c5; have f5 := h1.f 5
  have H2 := Lib.hid h2
  clear h h1 h2
  go_enter Tryz.func176, Tryz.ntmps176
  go_wp2
  go_returns
  exact ⟨rfl, H2.out⟩
set_option maxHeartbeats 1000000 in
theorem look_any {w0 w : World} {X N : Nat} {c : Cfg} {F : Nat → Prop} {T : Value} {pu tk : Int} {ot nx : Value} {pk : Int} (hc : OkC c) (h : Pxt w0 w X N c F T pu tk ot nx pk) :
    Calls Tryz.prog 152 #[ptr X] w fun e w' => e = .returned (.tuple #[]) ∧ ∃ M, w.heap.size ≤ M ∧ MM w' M (lnkV N) (mPop (spK c)) ∧ Pxt w0 w' X N c F T pu tk (subV M) (fnv 161 X) pk := by
  have hmf : ∀ (fn : Fn) (first cap : Array Value) (w : World), (Instr.makeFunc fn first cap).run Tryz.prog w = .ok (.func fn first cap) w := fun _ _ _ _ => rfl
  have q0 := h.c0
  have HMD := Lib.hid h.drew; clear h
  have HC := Lib.hid hc; clear hc
  go_enter Tryz.func152, Tryz.ntmps152
  go_wp2
  go_region_held3 (fun w' => w'.cell? ⟨X, 0, none⟩ = some (Lay.mapP N))
    (first | exact HL.out.c0 | exact HQ.out.c0 | exact HN.out.c0 | exact HMD.out.c0 | go_keep)
    (first
      | (go_at_call 72; (with_reducible refine (Lay.spare_m HC.out N _ HMD.out.mp).mono ?_); rintro r w3 ⟨rfl, hb⟩; have HN := Lib.hid (HMD.out.step hb); have HS := Lib.hid hb.size; clear hb)
      | (go_at_call 160; (with_reducible refine (popSp N _ (lk_of HC.out HN.out.mp)).mono ?_); rintro r w4 ⟨M, rfl, hM, hmm, hb⟩; have HQ := Lib.hid (HN.out.step hb); have HMM := Lib.hid hmm; have HLT := Lib.hid hM; clear hb hmm hM; have q4 := HQ.out.c4; have f4 := HQ.out.f 4; have q5 := HQ.out.c5; have f5 := HQ.out.f 5; have HL := Lib.hid (HQ.out.p4 (subV M)))
      | fail)
  all_goals
    have HF := Lib.hid (HL.out.p5 (fnv 161 X))
    have hne : M ≠ X := by have := HN.out.lt; have := HLT.out; omega
    go_wp2
    go_returns
    exact ⟨rfl, M, Nat.le_trans (by simpa using HS.out) HLT.out, (heap_setCell_other _ ⟨X, 5, none⟩ M _ hne).trans ((heap_setCell_other w4 ⟨X, 4, none⟩ M _ hne).trans HMM.out), HF.out⟩
end Go.Proofs.YtpocihddecemfaaGreat

namespace Go.Proofs.YtpocihddecemfaaGreat
open Go.RowKit
set_option linter.unusedVariables false
set_option linter.unusedSimpArgs false
open Lay (plcc plc shOf packN nodesN OkC Cfg Norm firstV Rep lenL things)
variable {w0 : World} {X S D N M : Nat} {c : Cfg} {F : Nat → Prop} {T : Value} {pu tk : Int} {ot nx : Value} {pk : Int} {L L1 : List Int} {cc t : Int} {m m1 : Sm}
theorem Pxs.cell4 {w : World} (h : Pxs w0 w X S D N c F T pu tk ot nx pk L cc) : w.cell? ⟨X, 4, none⟩ = some ot := h.x.c4
set_option maxHeartbeats 1000000 in
theorem take_on (w : World) (h : Pxs w0 w X S D N c F T pu tk (subV M) nx pk L cc) (hm : MM w M (lnkV N) m) (hl : m.k.links = lnkL c) (hM : M ≠ X ∧ M ≠ S ∧ M ≠ D ∧ M ≠ N) (fM : F M) (hc : OkC c) (wm : Wm t m) (ww : WW L) (h0 : 0 ≤ cc) (h1 : cc ≤ 1000000000) (ht : t ≤ 1000000000)
    (he : sstp L m = (L1, m1)) (hp : m1.pc ≠ 0) :
    Calls Tryz.prog 161 #[ptr X, ptr S] w fun e w' => e = .returned (.tuple #[]) ∧ Pxs w0 w' X S D N c F T pu tk (subV M) nx pk L1 (cst m cc) ∧ MM w' M (lnkV N) m1 := by
  have q4 := h.cell4
  have HS := Lib.hid (sub_step h hm hl hM fM hc wm ww h0 h1 ht)
  rw [he] at HS
  have e1 : decide (m1.pc = 0) = false := by simpa using hp
  simp only [e1] at HS
  clear h hm hl hM fM hc wm ww he hp e1
  go_enter Tryz.func161, Tryz.ntmps161
  go_wp2_with (first
    | (go_at_call 205; (with_reducible refine HS.out.mono ?_); rintro r w1 ⟨rfl, hx, hmm, hz⟩; have HX := Lib.hid hx; have HM := Lib.hid hmm; have HZ := Lib.hid hz; clear hx hmm hz)
    | fail)
  go_returns
  exact ⟨rfl, HX.out, HM.out⟩
set_option maxHeartbeats 2000000 in
theorem take_got (w : World) (h : Pxs w0 w X S D N c F T pu tk (subV M) nx pk L cc) (hm : MM w M (lnkV N) m) (hl : m.k.links = lnkL c) (hM : M ≠ X ∧ M ≠ S ∧ M ≠ D ∧ M ≠ N) (fM : F M) (hc : OkC c) (wm : Wm t m) (ww : WW L) (h0 : 0 ≤ cc) (h1 : cc ≤ 1000000000) (ht : t ≤ 1000000000)
    (he : sstp L m = (L1, m1)) (hp : m1.pc = 0) (hi : m1.item ≠ 0) :
    Calls Tryz.prog 161 #[ptr X, ptr S] w fun e w' => e = .returned (.tuple #[]) ∧ Pxs w0 w' X S D N c F T pu m1.item (subV M) (fnv 166 X) pk L1 (cst m cc) := by
  have hmf : ∀ (fn : Fn) (first cap : Array Value) (w : World), (Instr.makeFunc fn first cap).run Tryz.prog w = .ok (.func fn first cap) w := fun _ _ _ _ => rfl
  have q4 := h.cell4
  have wm1 := wm.step ww
  have HS := Lib.hid (sub_step h hm hl hM fM hc wm ww h0 h1 ht)
  rw [he] at HS wm1
  have e1 : decide (m1.pc = 0) = true := by simpa using hp
  simp only [e1] at HS
  have e2 : sItem m1 = m1.item := by unfold sItem; rw [if_pos hp]
  have HWM := Lib.hid wm1
  have hi0 := wm1.i
  obtain ⟨y, hy⟩ : ∃ y, y = m1.item := ⟨_, rfl⟩
  rw [← hy] at e2 hi hi0 ⊢
  have E2 := Lib.hid e2
  obtain ⟨y0, y1⟩ := hi0
  have hib : (y == 0) = false := by simpa using hi
  clear h hm hl hM fM hc wm ww he hp e1 e2 wm1 hy
  go_enter Tryz.func161, Tryz.ntmps161
  go_wp2_with (first
    | (go_at_call 205; (with_reducible refine HS.out.mono ?_); rintro r w1 ⟨rfl, hx, hmm, hz⟩; have HX := Lib.hid hx; have HM := Lib.hid hmm; have HZ := Lib.hid hz; clear hx hmm hz; have p4 := HX.out.cell4)
    | (go_at_call 204; (with_reducible refine (item_any _ HM.out HWM.out).mono ?_); rintro r w2 ⟨rfl, hw⟩; cases hw; rw [E2.out]; have p3 := HX.out.x.c3; have f3 := HX.out.x.f 3; have p5 := HX.out.x.c5; have f5 := HX.out.x.f 5; have HF := Lib.hid ((HX.out.p3 y).p5 (fnv 166 X)))
    | fail)
  go_returns
  exact ⟨rfl, HF.out⟩
set_option maxHeartbeats 2000000 in
theorem take_again (w : World) (h : Pxs w0 w X S D N c F T pu tk (subV M) nx pk L cc) (hm : MM w M (lnkV N) m) (hl : m.k.links = lnkL c) (hM : M ≠ X ∧ M ≠ S ∧ M ≠ D ∧ M ≠ N) (fM : F M) (hc : OkC c) (wm : Wm t m) (ww : WW L) (h0 : 0 ≤ cc) (h1 : cc ≤ 1000000000) (ht : t ≤ 1000000000)
    (he : sstp L m = (L1, m1)) (hp : m1.pc = 0) (hi : m1.item = 0) :
    Calls Tryz.prog 161 #[ptr X, ptr S] w fun e w' => e = .returned (.tuple #[]) ∧ ∃ M', w.heap.size ≤ M' ∧ MM w' M' (lnkV N) (mPop (spK c)) ∧ Pxs w0 w' X S D N c F T pu 0 (subV M') (fnv 161 X) pk L1 (cst m cc) := by
  have q4 := h.cell4
  have wm1 := wm.step ww
  have HS := Lib.hid (sub_step h hm hl hM fM hc wm ww h0 h1 ht)
  have HU := Lib.hid h
  rw [he] at HS wm1
  have e1 : decide (m1.pc = 0) = true := by simpa using hp
  simp only [e1] at HS
  have e2 : sItem m1 = 0 := by unfold sItem; rw [if_pos hp, hi]
  have HWM := Lib.hid wm1
  have E2 := Lib.hid e2
  have HC := Lib.hid hc
  have HSZ := Lib.hid (Nat.le_refl w.heap.size)
  clear h hm hl hM fM hc wm ww he hp e1 e2 wm1 hi
  go_enter Tryz.func161, Tryz.ntmps161
  go_wp2_with (first
    | (go_at_call 205; (with_reducible refine HS.out.mono ?_); rintro r w1 ⟨rfl, hx, hmm, hz⟩; have HX := Lib.hid hx; have HM := Lib.hid hmm; have HZ := Lib.hid hz; clear hx hmm hz; have p4 := HX.out.cell4)
    | (go_at_call 204; (with_reducible refine (item_any _ HM.out HWM.out).mono ?_); rintro r w2 ⟨rfl, hw⟩; cases hw; rw [E2.out]; have p3 := HX.out.x.c3; have f3 := HX.out.x.f 3; have HF := Lib.hid (HX.out.p3 0))
    | (go_at_call 152; (with_reducible refine (look_any HC.out HF.out.self).mono ?_); rintro r w3 ⟨rfl, M', hM', hmm, hx⟩; have HR := Lib.hid (HF.out.more hx); have HMM := Lib.hid hmm; have HLT := Lib.hid hM'; clear hx hmm hM')
    | fail)
  go_returns
  exact ⟨rfl, M', Nat.le_trans HZ.out (by simpa using HLT.out), HMM.out, HR.out⟩
set_option maxHeartbeats 2000000 in
theorem end_on (w : World) (h : Pxs w0 w X S D N c F T pu tk (subV M) nx pk L cc) (hm : MM w M (lnkV N) m) (hl : m.k.links = lnkL c) (hM : M ≠ X ∧ M ≠ S ∧ M ≠ D ∧ M ≠ N) (fM : F M) (hc : OkC c) (wm : Wm t m) (ww : WW L) (h0 : 0 ≤ cc) (h1 : cc ≤ 1000000000) (ht : t ≤ 1000000000)
    (he : sstp L m = (L1, m1)) (hp : m1.pc ≠ 0) :
    Calls Tryz.prog 181 #[ptr X, ptr S] w fun e w' => e = .returned (.tuple #[]) ∧ Pxs w0 w' X S D N c F T pu tk (subV M) nx pk L1 (cst m cc) ∧ MM w' M (lnkV N) m1 := by
  have q4 := h.cell4
  have HS := Lib.hid (sub_step h hm hl hM fM hc wm ww h0 h1 ht)
  rw [he] at HS
  have e1 : decide (m1.pc = 0) = false := by simpa using hp
  simp only [e1] at HS
  clear h hm hl hM fM hc wm ww he hp e1
  go_enter Tryz.func181, Tryz.ntmps181
  go_wp2_with (first
    | (go_at_call 205; (with_reducible refine HS.out.mono ?_); rintro r w1 ⟨rfl, hx, hmm, hz⟩; have HX := Lib.hid hx; have HM := Lib.hid hmm; clear hx hmm hz)
    | fail)
  go_returns
  exact ⟨rfl, HX.out, HM.out⟩
set_option maxHeartbeats 2000000 in
theorem end_done (w : World) (h : Pxs w0 w X S D N c F T pu tk (subV M) nx pk L cc) (hm : MM w M (lnkV N) m) (hl : m.k.links = lnkL c) (hM : M ≠ X ∧ M ≠ S ∧ M ≠ D ∧ M ≠ N) (fM : F M) (hc : OkC c) (wm : Wm t m) (ww : WW L) (h0 : 0 ≤ cc) (h1 : cc ≤ 1000000000) (ht : t ≤ 1000000000)
    (he : sstp L m = (L1, m1)) (hp : m1.pc = 0) :
    Calls Tryz.prog 181 #[ptr X, ptr S] w fun e w' => e = .returned (.tuple #[]) ∧ Pxs w0 w' X S D N c F T pu tk (subV M) .nilFunc m1.item L1 (cst m cc) := by
  have q4 := h.cell4
  have wm1 := wm.step ww
  have HS := Lib.hid (sub_step h hm hl hM fM hc wm ww h0 h1 ht)
  rw [he] at HS wm1
  have e1 : decide (m1.pc = 0) = true := by simpa using hp
  simp only [e1] at HS
  have e2 : sItem m1 = m1.item := by unfold sItem; rw [if_pos hp]
  have HWM := Lib.hid wm1
  obtain ⟨y, hy⟩ : ∃ y, y = m1.item := ⟨_, rfl⟩
  rw [← hy] at e2 ⊢
  have E2 := Lib.hid e2
  clear h hm hl hM fM hc wm ww he hp e1 e2 wm1 hy
  go_enter Tryz.func181, Tryz.ntmps181
  go_wp2_with (first
    | (go_at_call 205; (with_reducible refine HS.out.mono ?_); rintro r w1 ⟨rfl, hx, hmm, hz⟩; have HX := Lib.hid hx; have HM := Lib.hid hmm; clear hx hmm hz; have p4 := HX.out.cell4)
    | (go_at_call 204; (with_reducible refine (item_any _ HM.out HWM.out).mono ?_); rintro r w2 ⟨rfl, hw⟩; cases hw; rw [E2.out]; have p5 := HX.out.x.c5; have f5 := HX.out.x.f 5; have p6 := HX.out.x.c6; have f6 := HX.out.x.f 6; have HF := Lib.hid ((HX.out.p5 .nilFunc).p6 y))
    | fail)
  go_returns
  exact ⟨rfl, HF.out⟩
theorem Pxs.cs5 {w w1 : World} {b off n cap k : Nat} {v : Int} (h : Pxs w w1 X S D N c F (.slice (some ⟨b, off, none⟩) n cap) pu tk ot nx pk L cc) (hb : b < w.heap.size) (hP : ¬ F b) (hv : w.cell? ⟨b, off + k, none⟩ = some (.int .u64 v)) :
    w1.cell? ⟨X, 0, none⟩ = some (Lay.mapP N) ∧ w1.cell? ⟨X, 1, none⟩ = some (.slice (some ⟨b, off, none⟩) n cap) ∧ w1.cell? ⟨X, 2, none⟩ = some (.int .i64 pu) ∧ w1.cell? ⟨X, 3, none⟩ = some (.int .i64 tk) ∧ w1.cell? ⟨b, off + k, none⟩ = some (.int .u64 v) :=
  ⟨h.x.c0, h.x.c1, h.x.c2, h.x.c3, (World.cell?_of_block (w := w) (a := ⟨b, off + k, none⟩) (h.x.u.block b hb hP)).trans hv⟩
set_option maxHeartbeats 4000000 in
theorem putTask_any (w : World) {b off n cap k : Nat} {v : Int} (h : Pxs w w X S D N c F (.slice (some ⟨b, off, none⟩) n cap) (k : Int) tk ot (fnv 166 X) pk L cc) (hb : b < w.heap.size) (hP : ¬ F b) (hv : w.cell? ⟨b, off + k, none⟩ = some (.int .u64 v)) (hk : k < n) (hn : n ≤ 4)
    (hc : OkC c) (h0 : 0 ≤ cc) (h1 : cc ≤ 1000000000) (ht : (Lit.int .i64 tk).wf = true) :
    Calls Tryz.prog 166 #[ptr X, ptr S] w fun e w' => e = .returned (.tuple #[]) ∧ Pxs w w' X S D N c F (.slice (some ⟨b, off, none⟩) n cap) ((k : Int) + 1) tk ot (fnv (if k + 1 = n then 171 else 166) X) pk (ptv L (plcc c 13 tk k) v) (cc + 1) := by
  have hmf : ∀ (fn : Fn) (first cap : Array Value) (w : World), (Instr.makeFunc fn first cap).run Tryz.prog w = .ok (.func fn first cap) w := fun _ _ _ _ => rfl
  have HCS := Lib.hid (fun (w1 : World) {nx' : Value} {L' : List Int} {c' : Int} (h' : Pxs w w1 X S D N c F (.slice (some ⟨b, off, none⟩) n cap) (k : Int) tk ot nx' pk L' c') => h'.cs5 hb hP hv)
  obtain ⟨q0, q1, q2, q3, q5⟩ := h.cs5 hb hP hv
  have HMD := Lib.hid h.drew; clear h hb hP hv
  have HC := Lib.hid hc; clear hc
  have HT := Lib.hid ht; clear ht
  obtain ⟨f, hf⟩ : ∃ f, f = if k + 1 = n then 171 else 166 := ⟨_, rfl⟩
  rw [← hf]
  go_enter Tryz.func166, Tryz.ntmps166
  go_wp2
  go_region_held3 (fun w' => w'.cell? ⟨X, 0, none⟩ = some (Lay.mapP N) ∧ w'.cell? ⟨X, 1, none⟩ = some (.slice (some ⟨b, off, none⟩) n cap) ∧ w'.cell? ⟨X, 2, none⟩ = some (.int .i64 (k : Int)) ∧ w'.cell? ⟨X, 3, none⟩ = some (.int .i64 tk) ∧ w'.cell? ⟨b, off + k, none⟩ = some (.int .u64 v))
    (first | exact HCS.out _ HQ.out | exact HCS.out _ HN.out | exact HCS.out _ HMD.out | go_keep)
    (first
      | (go_at_call 170; (with_reducible refine (Lay.task_m HC.out N _ _ HT.out _ HMD.out.x.mp).mono ?_); rintro r w3 ⟨rfl, hb⟩; have HN := Lib.hid (HMD.out.step hb); clear hb)
      | (go_at_call 21; (with_reducible refine (put_any _ _ _ HN.out.st h0 h1).mono ?_); rintro r w4 ⟨rfl, hk⟩; have HQ := Lib.hid (HN.out.left hk); clear hk)
      | fail)
  have p2 := HQ.out.x.c2; have g2 := HQ.out.x.f 2
  have HR := Lib.hid (HQ.out.p2 ((k : Int) + 1))
  have r1 := HR.out.x.c1; have r2 := HR.out.x.c2
  by_cases hkn : k + 1 = n
  · have d1 : ((k : Int) + 1 == (n : Int)) = true := by simp; omega
    rw [if_pos hkn] at hf
    subst hf
    go_wp2
    go_quiet (fail)
    have HS := Lib.hid (HR.out.step (below_drewN (Below.refl _ _) nq))
    have s5 := HS.out.x.c5; have g5 := HS.out.x.f 5
    have HF := Lib.hid (HS.out.p5 (fnv 171 X))
    go_wp2
    go_returns
    exact ⟨rfl, HF.out⟩
  · have d1 : ((k : Int) + 1 == (n : Int)) = false := by simp; omega
    rw [if_neg hkn] at hf
    subst hf
    go_wp2
    go_quiet (fail)
    have HF := Lib.hid (HR.out.step (below_drewN (Below.refl _ _) nq))
    go_wp2
    go_returns
    exact ⟨rfl, HF.out⟩
end Go.Proofs.YtpocihddecemfaaGreat
