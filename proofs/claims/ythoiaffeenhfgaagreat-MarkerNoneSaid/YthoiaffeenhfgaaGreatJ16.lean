/-  -/
import Derived.Test.YthoiaffeenhfgaaGreatJ15
import Derived.Test.YthoiaffeenhfgaaGreatJ3
import Derived.Test.YthoiaffeenhfgaaGreatJ9
import Derived.Test.YthoiaffeenhfgaaGreatJ22
import Derived.Test.YthoiaffeenhfgaaGreatJ24
namespace Go.Proofs.YthoiaffeenhfgaaGreat.Dg
open Go.RowKit
set_option linter.unusedVariables false
set_option maxRecDepth 100000
set_option linter.unusedSimpArgs false
variable {w0 : World} {M S D : Nat} {m : Mc} {L : List Int} {c : Int}
theorem eqin_fn (d f M : Nat) (w : World) : (Op.equalIn (d + 1) 104 (fnv f M) .nilFunc).run Tryz.prog w = .ok false w := by
  simp [Op.equalIn, run_underlying Tryz.underlying104]
theorem eqin_nil (d : Nat) (w : World) : (Op.equalIn (d + 1) 104 .nilFunc .nilFunc).run Tryz.prog w = .ok true w := by
  simp [Op.equalIn, run_underlying Tryz.underlying104]
@[go_sem] theorem eql_fn (f M : Nat) (w : World) : (binOp .eql 104 (fnv f M) .nilFunc).run Tryz.prog w = .ok (.bool false) w := by
  have h : (Op.equal 104 (fnv f M) .nilFunc).run Tryz.prog w = .ok false w := eqin_fn 9999 f M w
  simp only [binOp]
  simp [h]
@[go_sem] theorem eql_nil (w : World) : (binOp .eql 104 .nilFunc .nilFunc).run Tryz.prog w = .ok (.bool true) w := by
  have h : (Op.equal 104 .nilFunc .nilFunc).run Tryz.prog w = .ok true w := eqin_nil 9999 w
  simp only [binOp]
  simp [h]
def cst (m : Mc) (c : Int) : Int := if m.pc = 0 then c else c + 1
theorem Mi.nx {w : World} (h : Mi w0 w M S D m L c) : w.cell? ⟨M, 4, none⟩ = some (nxt M m) := by
  obtain ⟨t, b, v, h, _⟩ := h; exact h.c4
theorem nxt_no (h : m.pc = 0) : nxt M m = .nilFunc := by simp [nxt, h]
theorem nxt_at (h : m.pc ≠ 0) : nxt M m = fnv (nfn m) M := by simp [nxt, h]
theorem nfn_is (m : Mc) (P : Nat → Prop) (a0 : P 103) (a1 : P 117) (a2 : P 136) (a3 : P 155) (a4 : P 137) (a5 : P 156) (a6 : P 171) (a7 : P 185) (a8 : P 195) (a9 : P 204) (b0 : P 184) (b1 : P 205) (b2 : P 210) (b3 : P 212) (b4 : P 214) : P (nfn m) := by
  unfold nfn
  repeat' split
  all_goals assumption
theorem enter_nfn (m : Mc) (a : Array Value) (w : World) : (callFunc (nfn m) a).run Tryz.prog w = .ok (.enter (nfn m) a) w := by
  refine nfn_is m (fun f => (callFunc f a).run Tryz.prog w = .ok (.enter f a) w) ?_ ?_ ?_ ?_ ?_ ?_ ?_ ?_ ?_ ?_ ?_ ?_ ?_ ?_ ?_ <;> simp [go_sem]
set_option maxHeartbeats 1000000 in
theorem step_on (w : World) (h : Mi w0 w M S D m L c) (wf : Wf m) (h0 : 0 ≤ c) (h1 : c ≤ 1000000000) (hp : m.pc ≠ 0) :
    Calls Tryz.prog 93 #[ptr M, ptr S] w fun a w' => a = .returned (.bool (decide ((stp L m).2.pc = 0))) ∧ Mi w0 w' M S D (stp L m).2 (stp L m).1 (c + 1) := by
  have c4 := h.nx
  rw [nxt_at hp] at c4
  have HN := Lib.hid (next_any h hp wf h0 h1)
  have hen := fun (a : Array Value) (w : World) => enter_nfn m a w
  generalize nfn m = f at c4 HN hen
  generalize stp L m = z at HN ⊢
  obtain ⟨L', m'⟩ := z
  have HP := Lib.hid hp; have WF := Lib.hid wf
  clear h hp wf
  by_cases hp' : m'.pc = 0
  · have e1 : decide (m'.pc = 0) = true := by simpa using hp'
    rw [e1]
    have HP' := Lib.hid hp'; clear hp' e1
    go_enter Tryz.func93, Tryz.ntmps93
    go_wp2_with (first
      | ((with_reducible refine HN.out.mono ?_); rintro r w1 ⟨rfl, hk⟩; have HK := Lib.hid hk; have d4 := hk.nx; rw [nxt_no HP'.out] at d4; clear hk)
      | fail)
    go_ret
    exact ⟨rfl, HK.out⟩
  · have e1 : decide (m'.pc = 0) = false := by simpa using hp'
    rw [e1]
    have HP' := Lib.hid hp'; clear hp' e1
    go_enter Tryz.func93, Tryz.ntmps93
    go_wp2_with (first
      | ((with_reducible refine HN.out.mono ?_); rintro r w1 ⟨rfl, hk⟩; have HK := Lib.hid hk; have d4 := hk.nx; rw [nxt_at HP'.out] at d4; clear hk)
      | fail)
    go_ret
    exact ⟨rfl, HK.out⟩
theorem stp_no {m : Mc} (h : m.pc = 0) (L : List Int) : stp L m = (L, m) := by simp [stp, h]
set_option maxHeartbeats 1000000 in
theorem step_off (w : World) (h : Mi w0 w M S D m L c) (hp : m.pc = 0) :
    Calls Tryz.prog 93 #[ptr M, ptr S] w fun a w' => a = .returned (.bool true) ∧ w = w' := by
  have c4 := h.nx
  rw [nxt_no hp] at c4
  clear h hp
  go_enter Tryz.func93, Tryz.ntmps93
  go_wp2
  go_ret
  exact ⟨rfl, rfl⟩
theorem step_any (w : World) (h : Mi w0 w M S D m L c) (wf : Wf m) (h0 : 0 ≤ c) (h1 : c ≤ 1000000000) :
    Calls Tryz.prog 93 #[ptr M, ptr S] w fun a w' => a = .returned (.bool (decide ((stp L m).2.pc = 0))) ∧ Mi w0 w' M S D (stp L m).2 (stp L m).1 (cst m c) := by
  by_cases hp : m.pc = 0
  · rw [stp_no hp]
    refine (step_off w h hp).mono ?_
    rintro a w' ⟨rfl, rfl⟩
    exact ⟨by simp [hp], by simpa [cst, hp] using h⟩
  · refine (step_on w h wf h0 h1 hp).mono ?_
    rintro a w' ⟨rfl, hk⟩
    exact ⟨rfl, by simpa [cst, hp] using hk⟩
def MM (w : World) (M : Nat) (m : Mc) : Prop := ∃ t b v, Mem w M m.e (nxt M m) t b v (rOf m) (xOf m) ∧ (m.pc ≠ 0 → t = m.t ∧ b = m.b ∧ v = m.w)
theorem MM.lt {w : World} (h : MM w M m) : M < w.heap.size := by obtain ⟨t, b, v, h, _⟩ := h; exact (Array.getElem?_eq_some_iff.1 h).1
theorem MM.below {w w' : World} (h : MM w M m) (hb : Below w.heap.size w w') : MM w' M m := by
  have hl := h.lt
  obtain ⟨t, b, v, h, k⟩ := h
  exact ⟨t, b, v, (hb.block M hl).trans h, k⟩
theorem MM.mi {w : World} (h : MM w M m) (hs : St w S D L c) (n1 : M ≠ S) (n2 : M ≠ D) : Mi w w M S D m L c := by
  obtain ⟨t, b, v, h, k⟩ := h
  exact ⟨t, b, v, ⟨h, hs, n1, n2, .refl _ _ _ _⟩, k⟩
theorem Mi.mm {w : World} (h : Mi w0 w M S D m L c) : MM w M m := by
  obtain ⟨t, b, v, h, k⟩ := h
  exact ⟨t, b, v, h.mem, k⟩
theorem Mi.st {w : World} (h : Mi w0 w M S D m L c) : St w S D L c := by obtain ⟨t, b, v, h, k⟩ := h; exact h.st
theorem Mi.u {w : World} (h : Mi w0 w M S D m L c) : U3 M S D w0 w := by obtain ⟨t, b, v, h, k⟩ := h; exact h.u
set_option maxHeartbeats 1000000 in
theorem res_any (w : World) (h : MM w M m) :
    Calls Tryz.prog 118 #[ptr M] w fun a w' => a = .returned (.tuple #[.int .i64 (rOf m), .int .u64 (xOf m)]) ∧ Below w.heap.size w w' := by
  obtain ⟨t, b, v, h, _⟩ := h
  have c8 : w.cell? ⟨M, 8, none⟩ = some (.int .i64 (rOf m)) := by unfold Mem at h; simp [World.cell?, h]
  have c9 : w.cell? ⟨M, 9, none⟩ = some (.int .u64 (xOf m)) := by unfold Mem at h; simp [World.cell?, h]
  clear h
  go_enter Tryz.func118, Tryz.ntmps118
  go_wp2
  go_quiet (fail)
  go_wp2
  go_ret2
  exact ⟨rfl, below_drewN (Below.refl _ _) _⟩
theorem ite_ind {α : Type} {P : α → Prop} {q : Prop} [Decidable q] {a b : α} (ha : P a) (hb : P b) : P (if q then a else b) := by split <;> assumption
end Go.Proofs.YthoiaffeenhfgaaGreat.Dg

namespace Go.Proofs.YthoiaffeenhfgaaGreat.Dg
open Go.RowKit
set_option linter.unusedVariables false
set_option maxRecDepth 100000
set_option linter.unusedSimpArgs false
variable {w0 : World} {M S D : Nat} {m : Mc} {L : List Int} {c : Int}
abbrev enV (e : En) : Value := .agg #[.int .i64 e.top, .int .i64 e.bot, .int .i64 e.ent, .int .i64 e.room]
def NewM (w : World) (m : Mc) (a : Ending) (w' : World) : Prop := ∃ M, a = .returned (ptr M) ∧ w.heap.size ≤ M ∧ MM w' M m ∧ Below w.heap.size w w'
theorem new_m {e : En} {v : Int} {m : Mc} {g : Nat} (hm : m.e = e ∧ nfn m = g ∧ m.pc = 1 ∧ m.t = 0 ∧ m.b = 0 ∧ m.w = v) (w : World) (o : Obj) (R : Int) (hR : R = roomOf e) :
    NewM w m (.returned (ptr (w.heap.size + 1))) ((w.alloc o).alloc (.cells #[.int .i64 e.top, .int .i64 e.bot, .int .i64 e.ent, .int .i64 R, fnv g (w.heap.size + 1), .int .u64 0, .int .u64 0, .int .u64 v, .int .i64 0, .int .u64 0] 134)) := by
  obtain ⟨rfl, rfl, hp, h1, h2, rfl⟩ := hm
  subst hR
  refine ⟨w.heap.size + 1, rfl, by omega, ⟨0, 0, m.w, ?_, fun _ => ⟨h1.symm, h2.symm, rfl⟩⟩, below_alloc0 (below_alloc0 (Below.refl _ _) _) _⟩
  have hn : nxt (w.heap.size + 1) m = fnv (nfn m) (w.heap.size + 1) := nxt_at (by omega)
  have hr : rOf m = 0 := by simp [rOf, hp]
  have hx : xOf m = 0 := by simp [xOf, hp]
  unfold Mem
  rw [hn, hr, hx]
  have key : ∀ X : Obj, ((w.heap.push o).push X)[w.heap.size + 1]? = some X := by
    intro X
    have e : w.heap.size + 1 = (w.heap.push o).size := by simp
    rw [e]; exact Array.getElem?_push_size
  exact key _
set_option maxHeartbeats 1000000 in
theorem begun_any (f g : Nat) (hf : f = 91 ∧ g = 103 ∨ f = 121 ∧ g = 137 ∨ f = 197 ∧ g = 205) (e : En) (v : Int) (m : Mc) (hm : m.e = e ∧ nfn m = g ∧ m.pc = 1 ∧ m.t = 0 ∧ m.b = 0 ∧ m.w = v) (w : World) :
    Calls Tryz.prog 90 #[enV e, .int .u64 v, .func (.func f) #[] #[]] w (NewM w m) := by
  have HM := Lib.hid hm
  clear hm
  have hmf : ∀ (fn : Fn) (first cap : Array Value) (w : World), (Instr.makeFunc fn first cap).run Tryz.prog w = .ok (.func fn first cap) w := fun _ _ _ _ => rfl
  by_cases hr : e.room < 1
  · have hmx : Lay.imax e.room 1 = 1 := by unfold Lay.imax; omega
    rcases hf with ⟨rfl, rfl⟩ | ⟨rfl, rfl⟩ | ⟨rfl, rfl⟩
    all_goals
      go_enter Tryz.func90, Tryz.ntmps90
      go_wp2
      go_ret
      exact new_m HM.out w _ 1 (by unfold roomOf; split <;> omega)
  · have hmx : Lay.imax e.room 1 = e.room := by unfold Lay.imax; omega
    rcases hf with ⟨rfl, rfl⟩ | ⟨rfl, rfl⟩ | ⟨rfl, rfl⟩
    all_goals
      go_enter Tryz.func90, Tryz.ntmps90
      go_wp2
      go_ret
      exact new_m HM.out w _ e.room (by unfold roomOf; split <;> omega)
theorem newM_step {w w1 w' : World} {m : Mc} {a : Ending} (hb : Below w.heap.size w w1) (h : NewM w1 m a w') : NewM w m a w' := by
  obtain ⟨M, rfl, hM, hm, hb'⟩ := h
  exact ⟨M, rfl, Nat.le_trans hb.size hM, hm, below_step hb hb.size hb'⟩
theorem below_al (w : World) (o : Obj) : Below w.heap.size w (w.alloc o) := below_alloc0 (Below.refl _ _) o
set_option maxHeartbeats 1000000 in
theorem push_any (e : En) (v : Int) (w : World) : Calls Tryz.prog 73 #[enV e, .int .u64 v] w (NewM w (mPush e v)) := by
  go_enter Tryz.func73, Tryz.ntmps73
  go_wp2_with (first
    | (go_at_call 90; (with_reducible refine (begun_any 91 103 (.inl ⟨rfl, rfl⟩) e v (mPush e v) ⟨rfl, rfl, rfl, rfl, rfl, rfl⟩ _).mono ?_); intro a w1 hk; have HK := Lib.hid (newM_step (below_al w _) hk); obtain ⟨M, rfl, _, _, _⟩ := hk)
    | fail)
  go_ret
  exact HK.out
set_option maxHeartbeats 1000000 in
theorem pop_any (e : En) (w : World) : Calls Tryz.prog 108 #[enV e] w (NewM w (mPop e)) := by
  go_enter Tryz.func108, Tryz.ntmps108
  go_wp2_with (first
    | (go_at_call 90; (with_reducible refine (begun_any 121 137 (.inr (.inl ⟨rfl, rfl⟩)) e 0 (mPop e) ⟨rfl, rfl, rfl, rfl, rfl, rfl⟩ _).mono ?_); intro a w1 hk; have HK := Lib.hid (newM_step (below_al w _) hk); obtain ⟨M, rfl, _, _, _⟩ := hk)
    | fail)
  go_ret
  exact HK.out
set_option maxHeartbeats 1000000 in
theorem steal_any (e : En) (w : World) : Calls Tryz.prog 188 #[enV e] w (NewM w (mSteal e)) := by
  go_enter Tryz.func188, Tryz.ntmps188
  go_wp2_with (first
    | (go_at_call 90; (with_reducible refine (begun_any 197 205 (.inr (.inr ⟨rfl, rfl⟩)) e 0 (mSteal e) ⟨rfl, rfl, rfl, rfl, rfl, rfl⟩ _).mono ?_); intro a w1 hk; have HK := Lib.hid (newM_step (below_al w _) hk); obtain ⟨M, rfl, _, _, _⟩ := hk)
    | fail)
  go_ret
  exact HK.out
attribute [local irreducible] runs
end Go.Proofs.YthoiaffeenhfgaaGreat.Dg

namespace Go.Proofs.YthoiaffeenhfgaaGreat
open Lay (plcc Cfg)
def eOf (c : Cfg) (i : Int) : Dg.En := ⟨plcc c 8 i 0, plcc c 9 i 0, plcc c 10 i 0, c.dq⟩
end Go.Proofs.YthoiaffeenhfgaaGreat

namespace Go.Proofs.YthoiaffeenhfgaaGreat
open Go.RowKit
set_option linter.unusedVariables false
set_option linter.unusedSimpArgs false
open Lay (plcc plc shOf packN nodesN OkC Cfg Norm firstV Rep lenL things)
theorem pw_idle (c : Cfg) (kd : Nat) (hk : kd = 1 ∨ kd = 2 ∨ kd = 3) : PW c 0 ⟨kd, 0, [], 0, 0, mnone⟩ :=
  ⟨hk, by simp, fun _ => .inl rfl, fun e => by simp at e, fun e => by simp at e, ⟨by simp, by simp⟩, by simp, by simp, ⟨by simp, by simp, fun e => by simp at e⟩, fun e => by simp at e, by omega⟩
theorem pw_put (c : Cfg) (ts : List Int) (h : ∀ z ∈ ts, 0 ≤ z ∧ z ≤ 18446744073709551615) : PW c 0 (pPut (gOf c) ts) := by
  unfold pPut
  split
  · exact pw_idle c 1 (.inl rfl)
  · rename_i hne
    have hl : (ts.take 4).length ≤ 4 := by simp; omega
    have hne' : ts.take 4 ≠ [] := by
      intro e
      cases ts with
      | nil => exact hne rfl
      | cons a l => simp at e
    have hp := List.length_pos_iff.2 hne'
    exact ⟨.inl rfl, by simp, fun e => absurd rfl e, fun _ => ⟨wm_pop _, rfl, rfl, by simp [mPop]⟩, fun e => by simp at e, ⟨by simp, by simp⟩, fun z hz => h z (List.mem_of_mem_take hz), hl, ⟨by simp, by simp, fun _ => by simp only; omega⟩, fun _ => ⟨hne', fun _ => rfl⟩, by omega⟩
theorem pw_take (c : Cfg) : PW c 0 (pTake (gOf c)) :=
  ⟨.inr (.inl rfl), by simp [pTake], fun _ => .inr rfl, fun e => by simp [pTake] at e, fun _ => ⟨wm_pop _, rfl, by simp [pTake, mPop]⟩, ⟨by simp [pTake], by simp [pTake]⟩, by simp [pTake], by simp [pTake], ⟨by simp [pTake], by simp [pTake], fun e => by simp [pTake] at e⟩, fun e => by simp [pTake] at e, by omega⟩
theorem pw_back (c : Cfg) (n : Nat) (p : Int) : PW c 0 (pBack n (gOf c) p) := by
  unfold pBack
  split
  · exact pw_idle c 3 (.inr (.inr rfl))
  · exact ⟨.inr (.inr rfl), by simp, fun _ => .inr rfl, fun e => by simp at e, fun _ => ⟨wm_push _ _, rfl, by simp [mPush]⟩, ⟨by simp, by simp⟩, by simp, by simp, ⟨by simp, by simp, fun e => by simp at e⟩, fun e => by simp at e, by omega⟩
section
variable {B S D N : Nat} {c : Cfg} {w0 w w' : World} {L : List Int} {k t : Int}
theorem PO.start {a : Ending} {L : List Int} (hb : Below B w0 w) (hB : B ≤ w0.heap.size) (hm : Lay.IsMap w N c) (hok : OkC c) (ww : WW L) (h : SomeNew w L a w') : ∃ S D, a = .returned (ptr S) ∧ PO B S D N c w0 w' L 0 ∧ Below w.heap.size w w' := by
  obtain ⟨S, D, rfl, hS, hD, hs, hb'⟩ := h
  have hN := hm.1
  have hBw := Nat.le_trans hB hb.size
  exact ⟨S, D, rfl, ⟨⟨0, by omega, by omega, hs⟩, hm.below hb', hok, ⟨by omega, by omega⟩, ⟨by omega, by omega, hB⟩, ww, below_step hb hBw hb'⟩, hb'⟩
theorem put_po (h : PO B S D N c w0 w L k) (at' v : Int) (hv : 0 ≤ v ∧ v ≤ 18446744073709551615) (hk : k ≤ 900000000) :
    Calls Tryz.prog 23 #[ptr S, .int .i64 at', .int .u64 v] w fun a w' => a = .returned (.tuple #[]) ∧ PO B S D N c w0 w' (ptq L at' v) (k + 1) ∧ UF (fun b => b = S ∨ b = D) w w' := by
  obtain ⟨cc, h0, h1, hs⟩ := h.st
  have hl := h.lt
  have hB := h.lo
  refine (put_any at' v w hs h0 (by omega)).mono ?_
  rintro a w1 ⟨rfl, l⟩
  rw [ptv_eq] at l
  have u := UF.of_upd l.2
  exact ⟨rfl, ⟨⟨cc + 1, by omega, by omega, l.1⟩, IsMap_same h.mp u.size (u.block N hl.2.2 (by have := h.ns; omega)), h.ok, h.ns, h.lo, h.ww.put _ hv, below_uf h.bel h.lo.2.2 u (fun b hb => by omega)⟩, u⟩
theorem all_po (h : PO B S D N c w0 w L k) (hl : L.length ≤ 1000000) :
    Calls Tryz.prog 33 #[ptr S] w fun a w' => a = .returned (.slice (some ⟨w.heap.size, 0, none⟩) L.length L.length) ∧ Reads .u64 w' (some ⟨w.heap.size, 0, none⟩) L ∧ PO B S D N c w0 w' L k ∧ Below w.heap.size w w' := by
  obtain ⟨cc, h0, h1, hs⟩ := h.st
  refine (all_any w hs hl).mono ?_
  rintro a w1 ⟨rfl, hr, hb⟩
  exact ⟨rfl, hr.reads, h.step hb, hb⟩
end
end Go.Proofs.YthoiaffeenhfgaaGreat

namespace Go.Proofs.YthoiaffeenhfgaaGreat
open Go.RowKit
set_option linter.unusedVariables false
set_option linter.unusedSimpArgs false
set_option maxRecDepth 100000
open Lay (plcc plc shOf packN nodesN OkC Cfg Norm firstV Rep lenL things)
structure DW (d : Dg.Mc) : Prop where
  kd : d.kind = 1
  pc : d.pc ≤ 4
  ok : Dg.EnOk d.e
  b : 0 ≤ d.b ∧ d.b ≤ 18446744073709551615
  w : 0 ≤ d.w ∧ d.w ≤ 18446744073709551615
  t : 0 ≤ d.t
theorem u64w_rng (a : Int) : 0 ≤ Dg.u64w a ∧ Dg.u64w a ≤ 18446744073709551615 := by unfold Dg.u64w; omega
theorem DW.push {e : Dg.En} {x : Int} (ok : Dg.EnOk e) (hx : 0 ≤ x ∧ x ≤ 18446744073709551615) : DW (Dg.mPush e x) := ⟨rfl, by simp [Dg.mPush], ok, by simp [Dg.mPush], hx, by simp [Dg.mPush]⟩
theorem DW.step {d : Dg.Mc} {L : List Int} (h : DW d) (ww : WW L) : DW (Dg.stp L d).2 ∧ WW (Dg.stp L d).1 := by
  obtain ⟨kd, pc, e, b, t, x, won, out⟩ := d
  obtain ⟨h1, h2, h3, h4, h5, h6⟩ := h
  dsimp only at h1 h2 h3 h4 h5 h6
  subst h1
  have hp : pc = 0 ∨ pc = 1 ∨ pc = 2 ∨ pc = 3 ∨ pc = 4 := by omega
  rcases hp with rfl | rfl | rfl | rfl | rfl
  · have es : Dg.stp L ⟨1, 0, e, b, t, x, won, out⟩ = (L, ⟨1, 0, e, b, t, x, won, out⟩) := by simp [Dg.stp]
    rw [es]; exact ⟨⟨rfl, by simp, h3, h4, h5, h6⟩, ww⟩
  · have es : Dg.stp L ⟨1, 1, e, b, t, x, won, out⟩ = (L, ⟨1, 2, e, ldq L e.bot, t, x, won, out⟩) := by simp [Dg.stp, Dg.pushS]
    rw [es]; exact ⟨⟨rfl, by simp, h3, ww.ldq _, h5, h6⟩, ww⟩
  · by_cases hc : Dg.roomOf e ≤ Dg.ahead b (ldq L e.top)
    · have es : Dg.stp L ⟨1, 2, e, b, t, x, won, out⟩ = (L, ⟨1, 0, e, b, t, 0, won, 2⟩) := by simp [Dg.stp, Dg.pushS, hc, Dg.fin]
      rw [es]; exact ⟨⟨rfl, by simp, h3, h4, by simp, h6⟩, ww⟩
    · have es : Dg.stp L ⟨1, 2, e, b, t, x, won, out⟩ = (L, ⟨1, 3, e, b, ldq L e.top, x, won, out⟩) := by simp [Dg.stp, Dg.pushS, hc]
      rw [es]; exact ⟨⟨rfl, by simp, h3, h4, h5, (ww.ldq _).1⟩, ww⟩
  · have es : Dg.stp L ⟨1, 3, e, b, t, x, won, out⟩ = (ptq L (Dg.entOf e b) x, ⟨1, 4, e, b, t, x, won, out⟩) := by simp [Dg.stp, Dg.pushS]
    rw [es]; exact ⟨⟨rfl, by simp, h3, h4, h5, h6⟩, ww.put _ h5⟩
  · have es : Dg.stp L ⟨1, 4, e, b, t, x, won, out⟩ = (ptq L e.bot (Dg.u64w (b + 1)), ⟨1, 0, e, b, t, 0, won, 1⟩) := by simp [Dg.stp, Dg.pushS, Dg.fin]
    rw [es]; exact ⟨⟨rfl, by simp, h3, h4, by simp, h6⟩, ww.put _ (u64w_rng _)⟩
structure AW (c : Cfg) (t : Int) (m : Am) : Prop where
  pc : m.pc ≤ 2
  d : m.pc = 1 → DW m.d
  tk : 0 ≤ m.task ∧ m.task ≤ 18446744073709551615
  p : m.pc = 2 → PW c t m.p
  t0 : 0 ≤ t
theorem AW.new {c : Cfg} {e : Dg.En} {x : Int} (ok : Dg.EnOk e) (hx : 0 ≤ x ∧ x ≤ 18446744073709551615) : AW c 0 (aNew e x) := ⟨by simp [aNew], fun _ => DW.push ok hx, hx, fun e => by simp [aNew] at e, by omega⟩
theorem AW.mono {c : Cfg} {t u : Int} {m : Am} (h : AW c t m) (k : t ≤ u) : AW c u m := ⟨h.pc, h.d, h.tk, fun e => (h.p e).mono k, by have := h.t0; omega⟩
theorem AW.step {c : Cfg} {t : Int} {m : Am} {L : List Int} (h : AW c t m) (ww : WW L) : AW c (t + 1) (astp (gOf c) L m).2 ∧ WW (astp (gOf c) L m).1 := by
  have t0 := h.t0
  unfold astp
  by_cases p1 : m.pc = 1
  · rw [if_pos p1]
    obtain ⟨k1, k2⟩ := (h.d p1).step ww
    refine ⟨?_, k2⟩
    by_cases e1 : (Dg.stp L m.d).2.pc = 0
    · rw [if_pos e1]
      by_cases e2 : (Dg.stp L m.d).2.out = 2
      · rw [if_pos e2]
        exact ⟨by simp, fun e => by simp at e, h.tk, fun _ => (pw_put c [m.task] (by simpa using h.tk)).mono (by omega), by omega⟩
      · rw [if_neg e2]
        exact ⟨by simp, fun e => by simp at e, h.tk, fun e => by simp at e, by omega⟩
    · rw [if_neg e1]
      exact ⟨h.pc, fun _ => k1, h.tk, fun e => by simp only at e; omega, by omega⟩
  · rw [if_neg p1]
    by_cases p2 : m.pc = 2
    · rw [if_pos p2]
      obtain ⟨k1, k2⟩ := (h.p p2).step ww
      refine ⟨?_, k2⟩
      by_cases e1 : (pstp (gOf c) L m.p).2.pc = 0
      · rw [if_pos e1]
        exact ⟨by simp, fun e => by simp at e, h.tk, fun e => by simp at e, by omega⟩
      · rw [if_neg e1]
        exact ⟨h.pc, fun e => absurd e p1, h.tk, fun _ => k1, by omega⟩
    · rw [if_neg p2]
      exact ⟨h.mono (by omega), ww⟩
end Go.Proofs.YthoiaffeenhfgaaGreat

namespace Go.Proofs.YthoiaffeenhfgaaGreat
open Go.RowKit
set_option linter.unusedVariables false
open Lay (plcc plc shOf packN nodesN OkC Cfg Norm firstV Rep lenL)
theorem top_is {c : Cfg} (hc : OkC c) {i : Int} (h0 : 0 ≤ i) (h1 : i < c.mr) : plcc c 8 i 0 = Lay.at3 c + i * (2 + c.dq) := by
  rw [← Lay.plc_top hc i, Lay.wordL, if_pos (by omega)]; simp
theorem dq_rng {c : Cfg} (hc : OkC c) : 1 ≤ c.dq ∧ c.dq ≤ 8 ∧ 1 ≤ c.mr := by
  obtain ⟨a0, a1, b0, b1, c0, c1, d0, d1, e0, e1, s0, k0, k1, u0, u1, q0, q1, h0, h1, f0, f1, r0, r1, w0, w1⟩ := hc
  exact ⟨by omega, by omega, by omega⟩
theorem mk_pos {c : Cfg} (hc : OkC c) {i : Int} (h0 : 0 ≤ i) : 0 ≤ Lay.at3 c + i * (2 + c.dq) := by
  have := (Lay.bds hc).t3
  have := dq_rng hc
  have := Int.mul_nonneg h0 (by omega : 0 ≤ 2 + c.dq)
  omega
theorem n10 (i j : Int) : Norm ⟨10, i, j⟩ := nrm 10 i j (by omega) (by omega) (fun h => by omega) (fun h _ _ => absurd rfl h)
theorem eok_of {c : Cfg} (hc : OkC c) (i : Int) : Dg.EnOk (eOf c i) := by
  have hd := dq_rng hc
  have h1 := Lay.plc_lo (shOf c) ⟨10, i, 0⟩
  have h2 := (Lay.bds hc).t55'
  have h3 := Lay.lenL_eq hc
  refine ⟨?_, ?_, ?_⟩
  · show -1000000000 ≤ plcc c 10 i 0
    have : plcc c 10 i 0 = plc (shOf c) ⟨10, i, 0⟩ := rfl
    omega
  · show plcc c 10 i 0 ≤ 1000000000
    by_cases h : 0 ≤ plcc c 10 i 0
    · have ll : plcc c 10 i 0 < lenL (shOf c) := Lay.plc_lt (s := shOf c) (n10 i 0) h
      omega
    · omega
  · show c.dq ≤ 1000000000; omega
end Go.Proofs.YthoiaffeenhfgaaGreat

namespace Go.Proofs.YthoiaffeenhfgaaGreat
open Go.RowKit
set_option linter.unusedVariables false
set_option linter.unusedSimpArgs false
set_option maxRecDepth 100000
open Lay (plcc plc shOf nodesN OkC Cfg Norm firstV Rep lenL things)
section
variable {B S D N : Nat} {c : Cfg} {w0 w w' : World} {L : List Int} {k t : Int} {X lo : Nat} {m : Wn}
theorem PO.los (h : PO B S D N c w0 w L k) {w1 : World} (hb : w.heap.size ≤ w1.heap.size) : S < w.heap.size ∧ D < w.heap.size ∧ N < w.heap.size ∧ B ≤ w.heap.size ∧ w.heap.size ≤ w1.heap.size :=
  ⟨h.lt.1, h.lt.2.1, h.lt.2.2, Nat.le_trans h.lo.2.2 h.bel.size, hb⟩
end
section
variable {B S D N : Nat} {c : Cfg} {w0 w1 w w' : World} {L : List Int} {k t : Int} {X lo : Nat} {m : Wn}
end
theorem rep_list {c : Cfg} {L : List Int} (h : Rep (shOf c) L (firstV c)) (hn : ∀ t ∈ things (shOf c), Norm t) : L = (things (shOf c)).map (firstV c) := by
  obtain ⟨hl, hr⟩ := h
  apply List.ext_getElem
  · rw [List.length_map, Lay.things_len]; exact hl
  · intro i h1 h2
    have hi : i < (things (shOf c)).length := by rw [Lay.things_len, ← hl]; exact h1
    have e3 := Lay.seg_all (shOf c) i hi
    have e4 : Lay.gt (things (shOf c)) i = (things (shOf c))[i] := by simp [Lay.gt, List.getD, List.getElem?_eq_getElem hi]
    rw [e4] at e3
    have := hr _ (hn _ (List.getElem_mem hi)) (by rw [e3]; omega)
    rw [e3] at this
    simp only [List.getElem_map]
    rw [← this]
    simp [List.getD, List.getElem?_eq_getElem h1]
end Go.Proofs.YthoiaffeenhfgaaGreat
