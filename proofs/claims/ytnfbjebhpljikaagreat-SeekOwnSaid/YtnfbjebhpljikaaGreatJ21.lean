/- Where a marker's deque stands, by a configuration. Packets' machines that are finished at once; the document's example: walked. A store of the call's own under a map, and packets' machines over it: a step, and all steps. The law of what the pool holds: walked. What a task's machine knows are words. Where a marker's deque stands among a map's words: apart from other markers' deques, and from the packets. -/
import Derived.Test.YtnfbjebhpljikaaGreatJ12
import Derived.Test.YtnfbjebhpljikaaGreatAdPure
import Derived.Test.YtnfbjebhpljikaaGreatJ18
import Derived.Test.YtnfbjebhpljikaaGreatJ20
import Derived.Test.YtnfbjebhpljikaaGreatJ13
import Derived.Test.YtnfbjebhpljikaaGreatJ17
namespace Go.Proofs.YtnfbjebhpljikaaGreat
open Lay (plcc Cfg)
def eOf (c : Cfg) (i : Int) : Dg.En := ⟨plcc c 8 i 0, plcc c 9 i 0, plcc c 10 i 0, c.dq⟩
end Go.Proofs.YtnfbjebhpljikaaGreat

namespace Go.Proofs.YtnfbjebhpljikaaGreat
open Go.RowKit
set_option linter.unusedVariables false
set_option linter.unusedSimpArgs false
open Lay (plcc plc shOf packN nodesN OkC Cfg Norm firstV Rep lenL things)

/-- A machine that is finished, with no packet. -/
def PKI (w : World) (X : Nat) : Prop := ∃ mv T pu tk ot, w.heap[X]? = some (.cells #[mv, T, .int .i64 pu, .int .i64 tk, ot, .nilFunc, .int .i64 0] 75 (0, 0))
theorem PKI.lt {w : World} {X : Nat} (h : PKI w X) : X < w.heap.size := by obtain ⟨_, _, _, _, _, h⟩ := h; exact (Array.getElem?_eq_some_iff.1 h).1
theorem PKI.keep {w w' : World} {X : Nat} (h : PKI w X) (hb : Below w.heap.size w w') : PKI w' X := by
  have hl := h.lt
  obtain ⟨mv, T, pu, tk, ot, h⟩ := h
  exact ⟨mv, T, pu, tk, ot, (hb.block X hl).trans h⟩
theorem PKI.step {w : World} {X : Nat} (h : PKI w X) (v : Value) : Calls Tryz.prog 13 #[ptr X, v] w fun e w' => e = .returned (.bool true) ∧ w = w' := by
  obtain ⟨mv, T, pu, tk, ot, h⟩ := h
  exact pstep_off w X v (by simp [World.cell?, h])
theorem PKI.packet {w : World} {X : Nat} (h : PKI w X) : Calls Tryz.prog 18 #[ptr X] w fun e w' => e = .returned (.int .i64 0) ∧ w = w' := by
  obtain ⟨mv, T, pu, tk, ot, h⟩ := h
  exact packet_raw w X 0 (by simp [World.cell?, h])
def NewI (w : World) (e : Ending) (w' : World) : Prop := ∃ X, e = .returned (ptr X) ∧ PKI w' X ∧ w.heap.size ≤ X ∧ Below w.heap.size w w'
theorem newI_is {w w1 : World} (mv T ot : Value) (pu tk : Int) (hb : Below w.heap.size w w1) : NewI w (.returned (ptr w1.heap.size)) (w1.alloc (.cells #[mv, T, .int .i64 pu, .int .i64 tk, ot, .nilFunc, .int .i64 0] 75)) :=
  ⟨w1.heap.size, rfl, ⟨mv, T, pu, tk, ot, by show (w1.heap.push _)[w1.heap.size]? = _; simp⟩, hb.size, below_step hb hb.size (below_alloc0 (Below.refl _ _) _)⟩
theorem NewI.more {w w1 w2 : World} {e : Ending} (h : NewI w e w1) (hb : Below w1.heap.size w1 w2) : NewI w e w2 := by
  obtain ⟨X, rfl, h1, h2, h3⟩ := h
  exact ⟨X, rfl, h1.keep hb, h2, below_step h3 h3.size hb⟩
theorem newI_of {w w' : World} {c : Cfg} {N : Nat} {E : Nat → Prop} {m : Pm} {e : Ending} (h : NewP w c N E m e w') (hp : m.pc = 0) (h0 : m.p = 0) : NewI w e w' := by
  obtain ⟨X, O, D, rfl, ⟨_, hO, _, _, T, pu, tk, ot, nx, pk, h5, h6⟩, ho, hd, hb⟩ := h
  refine ⟨X, rfl, ⟨Lay.mapP N, T, pu, tk, ot, ?_⟩, ho X hO, hb⟩
  rcases h6 with ⟨_, rfl, rfl⟩ | ⟨a, _⟩ | ⟨a, _⟩ | ⟨a, _⟩ | ⟨a, _⟩
  · unfold Pmem at h5; rw [h5, h0]
  all_goals omega
set_option maxRecDepth 100000 in
set_option maxHeartbeats 4000000 in
theorem put_nilmap (A : Option Addr) (n cap : Nat) (zs : List Int) (w : World) (hn : n = zs.length) (hr : Reads .u64 w A zs) (hl : n ≤ 1000) (hcap : n ≤ cap) : Calls Tryz.prog 12 #[.pointer none, .slice A n cap] w (NewI w) := by
  obtain ⟨k, hk⟩ : ∃ k : Nat, Lay.imin (n : Int) 4 = (k : Int) := ⟨(Lay.imin (n : Int) 4).toNat, by unfold Lay.imin; split <;> omega⟩
  have hk1 : k ≤ n ∧ k ≤ 4 ∧ k = (zs.take 4).length := by rw [List.length_take]; unfold Lay.imin at hk; split at hk <;> omega
  have e4 := slice_front A n cap k (by omega)
  have hr4 : Reads .u64 w A (zs.take 4) := fun h0 => by
    obtain ⟨b, off, e, hb, hcell⟩ := hr (by simp at h0; omega)
    refine ⟨b, off, e, hb, fun j hj => ?_⟩
    have hj4 : j < 4 := by simp at hj; omega
    rw [hcell j (by simp at hj; omega)]; simp [List.getD, List.getElem?_take, hj4]
  have HR := Lib.hid hr4; have HK := Lib.hid hk1
  by_cases h0 : n = 0
  · have hk0 : k = 0 := by omega
    subst hk0 h0
    have hk' : Lay.imin (0 : Int) 4 = 0 := by decide
    have e4' : ∀ w, (Instr.slice 35 (.slice A 0 cap) none (some (.int .i64 0)) none).run Tryz.prog w = .ok (.slice A 0 cap) w := e4
    clear e4 hn hr hl hcap hk hk1 hr4
    go_enter Tryz.func12, Tryz.ntmps12
    go_wp2_with (first
      | (go_at_call 41; (with_reducible refine (clone_any A 0 cap (zs.take 4) _ HK.out.2.2 HR.out (by decide)).mono ?_); rintro r w1 ⟨v, rfl, ho⟩; obtain ⟨A1, c1, hv, _⟩ := ho.blk; rw [← HK.out.2.2] at hv; subst hv; have HB := Lib.hid ho.2; clear ho)
      | fail)
    go_ret
    exact newI_is _ _ _ _ _ HB.out
  · clear hn hr hcap hk1 hr4
    go_enter Tryz.func12, Tryz.ntmps12
    go_wp2_with (first
      | (go_at_call 41; (with_reducible refine (clone_any A k cap (zs.take 4) _ HK.out.2.2 HR.out (by have := HK.out.1; omega)).mono ?_); rintro r w1 ⟨v, rfl, ho⟩; obtain ⟨A1, c1, hv, _⟩ := ho.blk; rw [← HK.out.2.2] at hv; subst hv; have HB := Lib.hid ho.2; clear ho)
      | fail)
    go_ret
    exact newI_is _ _ _ _ _ HB.out
set_option maxHeartbeats 1000000 in
theorem take_nilmap (w : World) : Calls Tryz.prog 101 #[.pointer none] w (NewI w) := by
  go_enter Tryz.func101, Tryz.ntmps101
  go_wp2
  go_ret
  exact newI_is _ _ _ _ _ (Below.refl _ _)
set_option maxHeartbeats 1000000 in
theorem packets_nilmap (w : World) : Calls Tryz.prog 40 #[.pointer none] w fun e w' => e = .returned (.int .i64 0) ∧ Below w.heap.size w w' := by
  go_enter Tryz.func40, Tryz.ntmps40
  go_wp2
  go_ret
  exact ⟨rfl, below_alloc0 (Below.refl _ _) _⟩
set_option maxHeartbeats 1000000 in
theorem back_nilmap (p : Int) (w : World) (hp : (Lit.int .i64 p).wf = true) : Calls Tryz.prog 103 #[.pointer none, .int .i64 p] w (NewI w) := by
  obtain ⟨p0, p1⟩ : -9223372036854775808 ≤ p ∧ p ≤ 9223372036854775807 := by
    simp [Lit.wf, IntKind.min, IntKind.max, IntKind.bits, IntKind.signed] at hp
    omega
  clear hp
  by_cases h1 : p < 1
  · go_enter Tryz.func103, Tryz.ntmps103
    go_wp2
    go_ret
    exact newI_is _ _ _ _ _ (Below.refl _ _)
  · go_enter Tryz.func103, Tryz.ntmps103
    go_wp2_with (first
      | (go_at_call 40; (with_reducible refine (packets_nilmap _).mono ?_); rintro r w3 ⟨rfl, hb⟩; have HB := Lib.hid hb; clear hb)
      | fail)
    go_ret
    exact (newI_is _ _ _ _ _ (Below.refl _ _)).more HB.out
theorem put_none {c : Cfg} (hc : OkC c) (N : Nat) (w : World) (A : Option Addr) (cap : Nat) (hm : Lay.IsMap w N c) : Calls Tryz.prog 12 #[Lay.mapP N, .slice A 0 cap] w (NewI w) :=
  (put_pk hc N A 0 cap [] w hm rfl (fun h0 => by simp at h0) (by simp) (by decide) (Nat.zero_le _)).mono fun _ _ h => newI_of h rfl rfl
theorem back_none {c : Cfg} (hc : OkC c) (N : Nat) (p : Int) (w : World) (hm : Lay.IsMap w N c) (hp : (Lit.int .i64 p).wf = true) (h : p < 1 ∨ packN c < p) : Calls Tryz.prog 103 #[Lay.mapP N, .int .i64 p] w (NewI w) := by
  have e : pBack (pkn c) (gOf c) p = ⟨3, 0, [], 0, 0, mnone⟩ := by unfold pBack; rw [if_pos (by have := pkn_is hc; omega)]
  refine (back_pk hc N p w hm hp).mono fun _ _ h => ?_
  rw [e] at h
  exact newI_of h rfl rfl
end Go.Proofs.YtnfbjebhpljikaaGreat

namespace Go.Proofs.YtnfbjebhpljikaaGreat
open Go.RowKit
set_option linter.unusedVariables false
set_option linter.unusedSimpArgs false
open Lay (plcc plc shOf packN nodesN OkC Cfg Norm firstV Rep lenL things)

section
variable {B S D N : Nat} {c : Cfg} {w0 w w' : World} {L : List Int} {k t : Int} {X lo : Nat} {m : Pm}
/-- A machine in memory whose blocks are not below lo, apart from the store. -/
def PKX (lo : Nat) (w : World) (X S D : Nat) (c : Cfg) (N : Nat) (m : Pm) : Prop := ∃ O Dp, PKM w X O Dp c N m ∧ (∀ b, O b → lo ≤ b) ∧ ¬ Dp S ∧ ¬ Dp D
theorem PKX.of_new {E : Nat → Prop} {e : Ending} (h : PO B S D N c w0 w L k) (hn : NewP w c N E m e w') (e1 : ¬ E S) (e2 : ¬ E D) : ∃ X, e = .returned (ptr X) ∧ PKX w.heap.size w' X S D c N m ∧ PO B S D N c w0 w' L k ∧ Below w.heap.size w w' := by
  obtain ⟨X, O, Dp, rfl, hp, ho, hd, hb⟩ := hn
  have hl := h.lt
  exact ⟨X, rfl, ⟨O, Dp, hp, ho, fun d => by rcases hd S d with x | x; omega; exact e1 x, fun d => by rcases hd D d with x | x; omega; exact e2 x⟩, h.step hb, hb⟩
/-- A step of it. -/
theorem step_po (h : PO B S D N c w0 w L k) (hx : PKX lo w X S D c N m) (hlo : S < lo ∧ D < lo ∧ N < lo ∧ B ≤ lo ∧ lo ≤ w.heap.size) (wm : PW c t m) (hk : k ≤ 800000000) (ht : t ≤ 800000000) :
    Calls Tryz.prog 13 #[ptr X, ptr S] w fun e w' => e = .returned (.bool (decide ((pstp (gOf c) L m).2.pc = 0))) ∧ PO B S D N c w0 w' (pstp (gOf c) L m).1 (k + 1) ∧ PKX lo w' X S D c N (pstp (gOf c) L m).2 ∧
      UF (fun b => b = S ∨ b = D ∨ lo ≤ b) w w' := by
  obtain ⟨cc, h0, h1, hs⟩ := h.st
  obtain ⟨O, Dp, hp, ho, hS, hD⟩ := hx
  have hl := h.lt
  have hB := h.lo
  refine (step_pk h.ok hp hs h.mp hS hD (fun hh => by have := ho N hh; omega) h.ns.1 h.ns.2 wm h.ww h0 (by omega) (by omega)).mono ?_
  rintro e w' ⟨rfl, ⟨O', D', hp', ho', hd'⟩, hs', u⟩
  have u2 : UF (fun b => b = S ∨ b = D ∨ lo ≤ b) w w' := u.mono fun b _ hb => by
    rcases hb with hb | hb | hb
    · exact .inl hb
    · exact .inr (.inl hb)
    · exact .inr (.inr (ho b hb))
  refine ⟨rfl, ⟨⟨pcost m cc, ?_, ?_, hs'⟩, IsMap_same h.mp u2.size (u2.block N hl.2.2 (by have := h.ns; omega)), h.ok, h.ns, h.lo, (wm.step h.ww).2, below_uf h.bel h.lo.2.2 u2 (fun b hb => by omega)⟩, ⟨O', D', hp', fun b hb => ?_, fun hh => ?_, fun hh => ?_⟩, u2⟩
  · unfold pcost; split <;> omega
  · unfold pcost; split <;> omega
  · rcases ho' b hb with x | x
    · exact ho b x
    · omega
  · rcases hd' S hh with x | x
    · exact hS x
    · omega
  · rcases hd' D hh with x | x
    · exact hD x
    · omega
theorem packet_po (hx : PKX lo w X S D c N m) (wm : PW c t m) : Calls Tryz.prog 18 #[ptr X] w fun e w' => e = .returned (.int .i64 (pPacket m)) ∧ w = w' := by
  obtain ⟨O, Dp, hp, _⟩ := hx
  exact packet_pk hp wm

theorem pruns_succ (g : Pg) (i : Nat) (L : List Int) (m : Pm) : pstp g (pruns g i L m).1 (pruns g i L m).2 = pruns g (i + 1) L m := by
  rw [pruns_add g i 1]; rfl
theorem pw_runs {c : Cfg} : ∀ (i : Nat) {L : List Int} {m : Pm} {t : Int}, WW L → PW c t m → WW (pruns (gOf c) i L m).1 ∧ PW c (t + i) (pruns (gOf c) i L m).2
  | 0, L, m, t, h, h2 => ⟨h, (show PW c (t + ((0 : Nat) : Int)) m from h2.mono (by omega))⟩
  | i + 1, L, m, t, h, h2 => by
    have ih := pw_runs i h h2
    rw [← pruns_succ]
    have s := ih.2.step ih.1
    exact ⟨s.2, s.1.mono (by omega)⟩
/-- Behind i steps. -/
structure PRn (B S D N : Nat) (c : Cfg) (w0 w1 w : World) (lo X : Nat) (L : List Int) (m : Pm) (i : Nat) (k : Int) : Prop where
  po : PO B S D N c w0 w (pruns (gOf c) i L m).1 (k + i)
  mm : PKX lo w X S D c N (pruns (gOf c) i L m).2
  u : UF (fun b => b = S ∨ b = D ∨ lo ≤ b) w1 w
theorem PRn.start (h : PO B S D N c w0 w L k) (hx : PKX lo w X S D c N m) : PRn B S D N c w0 w w lo X L m 0 k := by
  refine ⟨?_, ?_, .refl _ _⟩
  · show PO B S D N c w0 w L (k + ((0 : Nat) : Int)); exact h.more (by omega)
  · exact hx
theorem run_step {w1 : World} {i : Nat} (h : PRn B S D N c w0 w1 w lo X L m i k) (hlo : S < lo ∧ D < lo ∧ N < lo ∧ B ≤ lo ∧ lo ≤ w1.heap.size) (wm : PW c t m) (ww : WW L) (hk : k + i ≤ 800000000) (ht : t + i ≤ 800000000) :
    Calls Tryz.prog 13 #[ptr X, ptr S] w fun e w' => e = .returned (.bool (decide ((pruns (gOf c) (i + 1) L m).2.pc = 0))) ∧ PRn B S D N c w0 w1 w' lo X L m (i + 1) k := by
  have hsz := h.u.size
  refine (step_po h.po h.mm ⟨hlo.1, hlo.2.1, hlo.2.2.1, hlo.2.2.2.1, by omega⟩ (pw_runs i ww wm).2 hk ht).mono ?_
  rintro e w' ⟨rfl, h1, h2, h3⟩
  rw [pruns_succ] at h1 h2 ⊢
  exact ⟨rfl, h1.more (by omega), h2, h.u.trans h3 (fun _ x => x) (fun _ _ x => x)⟩
end
attribute [local irreducible] pruns

end Go.Proofs.YtnfbjebhpljikaaGreat

namespace Go.Proofs.YtnfbjebhpljikaaGreat
open Go.RowKit
set_option linter.unusedVariables false
set_option linter.unusedSimpArgs false
open Lay (plcc plc shOf packN nodesN OkC Cfg Norm firstV Rep lenL things)

/-! How machines begin. -/
theorem pw_idle (c : Cfg) (kd : Nat) (hk : kd = 1 ∨ kd = 2 ∨ kd = 3) : PW c 0 ⟨kd, 0, [], 0, 0, mnone⟩ :=
  ⟨hk, by simp, fun _ => .inl rfl, fun e => by simp at e, fun e => by simp at e, ⟨by simp, by simp⟩, by simp, by simp, ⟨by simp, by simp, fun e => by simp at e⟩, fun e => by simp at e, by omega⟩
theorem pw_put (c : Cfg) (ts : List Int) (h : ∀ z ∈ ts, 0 ≤ z ∧ z ≤ 18446744073709551615) : PW c 0 (pPut (gOf c) ts) := by
  unfold pPut
  split
  · exact pw_idle c 1 (.inl rfl)
  · rename_i hne
    have hl : (ts.take 4).length ≤ 4 := by simp; omega
    have hne' : ts.take 4 ≠ [] := by
      intro e
      cases ts with
      | nil => exact hne rfl
      | cons a l => simp at e
    have hp := List.length_pos_iff.2 hne'
    exact ⟨.inl rfl, by simp, fun e => absurd rfl e, fun _ => ⟨wm_pop _, rfl, rfl, by simp [mPop]⟩, fun e => by simp at e, ⟨by simp, by simp⟩, fun z hz => h z (List.mem_of_mem_take hz), hl, ⟨by simp, by simp, fun _ => by simp only; omega⟩, fun _ => ⟨hne', fun _ => rfl⟩, by omega⟩
theorem pw_take (c : Cfg) : PW c 0 (pTake (gOf c)) :=
  ⟨.inr (.inl rfl), by simp [pTake], fun _ => .inr rfl, fun e => by simp [pTake] at e, fun _ => ⟨wm_pop _, rfl, by simp [pTake, mPop]⟩, ⟨by simp [pTake], by simp [pTake]⟩, by simp [pTake], by simp [pTake], ⟨by simp [pTake], by simp [pTake], fun e => by simp [pTake] at e⟩, fun e => by simp [pTake] at e, by omega⟩
theorem pw_back (c : Cfg) (n : Nat) (p : Int) : PW c 0 (pBack n (gOf c) p) := by
  unfold pBack
  split
  · exact pw_idle c 3 (.inr (.inr rfl))
  · exact ⟨.inr (.inr rfl), by simp, fun _ => .inr rfl, fun e => by simp at e, fun _ => ⟨wm_push _ _, rfl, by simp [mPush]⟩, ⟨by simp, by simp⟩, by simp, by simp, ⟨by simp, by simp, fun e => by simp at e⟩, fun e => by simp at e, by omega⟩

section
variable {B S D N : Nat} {c : Cfg} {w0 w w' : World} {L : List Int} {k t : Int}
theorem PO.start {a : Ending} {L : List Int} (hb : Below B w0 w) (hB : B ≤ w0.heap.size) (hm : Lay.IsMap w N c) (hok : OkC c) (ww : WW L) (h : SomeNew w L a w') : ∃ S D, a = .returned (ptr S) ∧ PO B S D N c w0 w' L 0 ∧ Below w.heap.size w w' := by
  obtain ⟨S, D, rfl, hS, hD, hs, hb'⟩ := h
  have hN := hm.1
  have hBw := Nat.le_trans hB hb.size
  exact ⟨S, D, rfl, ⟨⟨0, by omega, by omega, hs⟩, hm.below hb', hok, ⟨by omega, by omega⟩, ⟨by omega, by omega, hB⟩, ww, below_step hb hBw hb'⟩, hb'⟩
theorem put_po (h : PO B S D N c w0 w L k) (at' v : Int) (hv : 0 ≤ v ∧ v ≤ 18446744073709551615) (hk : k ≤ 900000000) :
    Calls Tryz.prog 96 #[ptr S, .int .i64 at', .int .u64 v] w fun a w' => a = .returned (.tuple #[]) ∧ PO B S D N c w0 w' (ptq L at' v) (k + 1) ∧ UF (fun b => b = S ∨ b = D) w w' := by
  obtain ⟨cc, h0, h1, hs⟩ := h.st
  have hl := h.lt
  have hB := h.lo
  refine (put_any at' v w hs h0 (by omega)).mono ?_
  rintro a w1 ⟨rfl, l⟩
  rw [ptv_eq] at l
  have u := UF.of_upd l.2
  exact ⟨rfl, ⟨⟨cc + 1, by omega, by omega, l.1⟩, IsMap_same h.mp u.size (u.block N hl.2.2 (by have := h.ns; omega)), h.ok, h.ns, h.lo, h.ww.put _ hv, below_uf h.bel h.lo.2.2 u (fun b hb => by omega)⟩, u⟩
theorem load_po (h : PO B S D N c w0 w L k) (at' : Int) (hk : k ≤ 900000000) :
    Calls Tryz.prog 99 #[ptr S, .int .i64 at'] w fun a w' => a = .returned (.int .u64 (ldq L at')) ∧ PO B S D N c w0 w' L (k + 1) ∧ UF (fun b => b = S ∨ b = D) w w' := by
  obtain ⟨cc, h0, h1, hs⟩ := h.st
  have hl := h.lt
  have hB := h.lo
  refine (load_any at' w hs h0 (by omega)).mono ?_
  rintro a w1 ⟨rfl, l⟩
  have u := UF.of_upd l.2
  exact ⟨by rw [ldv_eq], ⟨⟨cc + 1, by omega, by omega, l.1⟩, IsMap_same h.mp u.size (u.block N hl.2.2 (by have := h.ns; omega)), h.ok, h.ns, h.lo, h.ww, below_uf h.bel h.lo.2.2 u (fun b hb => by omega)⟩, u⟩
/-- A machine that puts, taken through all its steps. -/
theorem UF.far {F : Nat → Prop} (u : UF F w w') {b : Nat} (hb : b < w.heap.size) (hF : ¬ F b) (o : Nat) : w'.cell? ⟨b, o, none⟩ = w.cell? ⟨b, o, none⟩ :=
  World.cell?_of_block (w := w) (a := ⟨b, o, none⟩) (u.block b hb hF)
end
end Go.Proofs.YtnfbjebhpljikaaGreat

namespace Go.Proofs.YtnfbjebhpljikaaGreat
open Go.RowKit
set_option linter.unusedVariables false
set_option linter.unusedSimpArgs false
set_option maxRecDepth 100000
open Lay (plcc plc shOf packN nodesN OkC Cfg Norm firstV Rep lenL things)

/-- What a push knows are words. -/
structure DW (d : Dg.Mc) : Prop where
  kd : d.kind = 1
  pc : d.pc ≤ 4
  ok : Dg.EnOk d.e
  b : 0 ≤ d.b ∧ d.b ≤ 18446744073709551615
  w : 0 ≤ d.w ∧ d.w ≤ 18446744073709551615
  t : 0 ≤ d.t
theorem u64w_rng (a : Int) : 0 ≤ Dg.u64w a ∧ Dg.u64w a ≤ 18446744073709551615 := by unfold Dg.u64w; omega
theorem DW.push {e : Dg.En} {x : Int} (ok : Dg.EnOk e) (hx : 0 ≤ x ∧ x ≤ 18446744073709551615) : DW (Dg.mPush e x) := ⟨rfl, by simp [Dg.mPush], ok, by simp [Dg.mPush], hx, by simp [Dg.mPush]⟩
theorem DW.step {d : Dg.Mc} {L : List Int} (h : DW d) (ww : WW L) : DW (Dg.stp L d).2 ∧ WW (Dg.stp L d).1 := by
  obtain ⟨kd, pc, e, b, t, x, won, out⟩ := d
  obtain ⟨h1, h2, h3, h4, h5, h6⟩ := h
  dsimp only at h1 h2 h3 h4 h5 h6
  subst h1
  have hp : pc = 0 ∨ pc = 1 ∨ pc = 2 ∨ pc = 3 ∨ pc = 4 := by omega
  rcases hp with rfl | rfl | rfl | rfl | rfl
  · have es : Dg.stp L ⟨1, 0, e, b, t, x, won, out⟩ = (L, ⟨1, 0, e, b, t, x, won, out⟩) := by simp [Dg.stp]
    rw [es]; exact ⟨⟨rfl, by simp, h3, h4, h5, h6⟩, ww⟩
  · have es : Dg.stp L ⟨1, 1, e, b, t, x, won, out⟩ = (L, ⟨1, 2, e, ldq L e.bot, t, x, won, out⟩) := by simp [Dg.stp, Dg.pushS]
    rw [es]; exact ⟨⟨rfl, by simp, h3, ww.ldq _, h5, h6⟩, ww⟩
  · by_cases hc : Dg.roomOf e ≤ Dg.ahead b (ldq L e.top)
    · have es : Dg.stp L ⟨1, 2, e, b, t, x, won, out⟩ = (L, ⟨1, 0, e, b, t, 0, won, 2⟩) := by simp [Dg.stp, Dg.pushS, hc, Dg.fin]
      rw [es]; exact ⟨⟨rfl, by simp, h3, h4, by simp, h6⟩, ww⟩
    · have es : Dg.stp L ⟨1, 2, e, b, t, x, won, out⟩ = (L, ⟨1, 3, e, b, ldq L e.top, x, won, out⟩) := by simp [Dg.stp, Dg.pushS, hc]
      rw [es]; exact ⟨⟨rfl, by simp, h3, h4, h5, (ww.ldq _).1⟩, ww⟩
  · have es : Dg.stp L ⟨1, 3, e, b, t, x, won, out⟩ = (ptq L (Dg.entOf e b) x, ⟨1, 4, e, b, t, x, won, out⟩) := by simp [Dg.stp, Dg.pushS]
    rw [es]; exact ⟨⟨rfl, by simp, h3, h4, h5, h6⟩, ww.put _ h5⟩
  · have es : Dg.stp L ⟨1, 4, e, b, t, x, won, out⟩ = (ptq L e.bot (Dg.u64w (b + 1)), ⟨1, 0, e, b, t, 0, won, 1⟩) := by simp [Dg.stp, Dg.pushS, Dg.fin]
    rw [es]; exact ⟨⟨rfl, by simp, h3, h4, by simp, h6⟩, ww.put _ (u64w_rng _)⟩
/-- What a task's machine knows are words; t: how often a part of the pool's has begun at most. -/
structure AW (c : Cfg) (t : Int) (m : Am) : Prop where
  pc : m.pc ≤ 2
  d : m.pc = 1 → DW m.d
  tk : 0 ≤ m.task ∧ m.task ≤ 18446744073709551615
  p : m.pc = 2 → PW c t m.p
  t0 : 0 ≤ t
theorem AW.new {c : Cfg} {e : Dg.En} {x : Int} (ok : Dg.EnOk e) (hx : 0 ≤ x ∧ x ≤ 18446744073709551615) : AW c 0 (aNew e x) := ⟨by simp [aNew], fun _ => DW.push ok hx, hx, fun e => by simp [aNew] at e, by omega⟩
theorem AW.mono {c : Cfg} {t u : Int} {m : Am} (h : AW c t m) (k : t ≤ u) : AW c u m := ⟨h.pc, h.d, h.tk, fun e => (h.p e).mono k, by have := h.t0; omega⟩
theorem AW.step {c : Cfg} {t : Int} {m : Am} {L : List Int} (h : AW c t m) (ww : WW L) : AW c (t + 1) (astp (gOf c) L m).2 ∧ WW (astp (gOf c) L m).1 := by
  have t0 := h.t0
  unfold astp
  by_cases p1 : m.pc = 1
  · rw [if_pos p1]
    obtain ⟨k1, k2⟩ := (h.d p1).step ww
    refine ⟨?_, k2⟩
    by_cases e1 : (Dg.stp L m.d).2.pc = 0
    · rw [if_pos e1]
      by_cases e2 : (Dg.stp L m.d).2.out = 2
      · rw [if_pos e2]
        exact ⟨by simp, fun e => by simp at e, h.tk, fun _ => (pw_put c [m.task] (by simpa using h.tk)).mono (by omega), by omega⟩
      · rw [if_neg e2]
        exact ⟨by simp, fun e => by simp at e, h.tk, fun e => by simp at e, by omega⟩
    · rw [if_neg e1]
      exact ⟨h.pc, fun _ => k1, h.tk, fun e => by simp only at e; omega, by omega⟩
  · rw [if_neg p1]
    by_cases p2 : m.pc = 2
    · rw [if_pos p2]
      obtain ⟨k1, k2⟩ := (h.p p2).step ww
      refine ⟨?_, k2⟩
      by_cases e1 : (pstp (gOf c) L m.p).2.pc = 0
      · rw [if_pos e1]
        exact ⟨by simp, fun e => by simp at e, h.tk, fun e => by simp at e, by omega⟩
      · rw [if_neg e1]
        exact ⟨h.pc, fun e => absurd e p1, h.tk, fun _ => k1, by omega⟩
    · rw [if_neg p2]
      exact ⟨h.mono (by omega), ww⟩

end Go.Proofs.YtnfbjebhpljikaaGreat

namespace Go.Proofs.YtnfbjebhpljikaaGreat
open Go.RowKit
set_option linter.unusedVariables false
open Lay (plcc plc shOf packN nodesN OkC Cfg Norm firstV Rep lenL)

theorem top_is {c : Cfg} (hc : OkC c) {i : Int} (h0 : 0 ≤ i) (h1 : i < c.mr) : plcc c 8 i 0 = Lay.at3 c + i * (2 + c.dq) := by
  rw [← Lay.plc_top hc i, Lay.wordL, if_pos (by omega)]; simp
theorem bot_is {c : Cfg} (hc : OkC c) {i : Int} (h0 : 0 ≤ i) (h1 : i < c.mr) : plcc c 9 i 0 = Lay.at3 c + i * (2 + c.dq) + 1 := by
  rw [← Lay.plc_bottom hc i, Lay.wordL, if_pos (by omega)]; simp
theorem ent_is {c : Cfg} (hc : OkC c) {i j : Int} (h0 : 0 ≤ i) (h1 : i < c.mr) (h2 : 0 ≤ j) (h3 : j < c.dq) : plcc c 10 i j = Lay.at3 c + i * (2 + c.dq) + (2 + j) := by
  rw [← Lay.plc_entry hc i j, Lay.itemL, if_pos (by omega), Lay.wordL, if_pos (by omega)]; simp
theorem dq_rng {c : Cfg} (hc : OkC c) : 1 ≤ c.dq ∧ c.dq ≤ 8 ∧ 1 ≤ c.mr := by
  obtain ⟨a0, a1, b0, b1, c0, c1, d0, d1, e0, e1, s0, k0, k1, u0, u1, q0, q1, h0, h1, f0, f1, r0, r1, w0, w1⟩ := hc
  exact ⟨by omega, by omega, by omega⟩
theorem mk_pos {c : Cfg} (hc : OkC c) {i : Int} (h0 : 0 ≤ i) : 0 ≤ Lay.at3 c + i * (2 + c.dq) := by
  have := (Lay.bds hc).t3
  have := dq_rng hc
  have := Int.mul_nonneg h0 (by omega : 0 ≤ 2 + c.dq)
  omega
def dqn (c : Cfg) : Nat := c.dq.toNat
theorem dqn_is {c : Cfg} (hc : OkC c) : ((dqn c : Nat) : Int) = c.dq := by have := dq_rng hc; unfold dqn; omega
theorem n8 (i : Int) : Norm ⟨8, i, 0⟩ := nrm 8 i 0 (by omega) (by omega) (fun h => by omega) (fun _ _ _ => rfl)
theorem n9 (i : Int) : Norm ⟨9, i, 0⟩ := nrm 9 i 0 (by omega) (by omega) (fun h => by omega) (fun _ _ _ => rfl)
theorem n10 (i j : Int) : Norm ⟨10, i, j⟩ := nrm 10 i j (by omega) (by omega) (fun h => by omega) (fun h _ _ => absurd rfl h)
theorem ge_of {c : Cfg} (hc : OkC c) {i : Int} (h0 : 0 ≤ i) (h1 : i < c.mr) : Dg.Ge (dqn c) (lenL (shOf c)) (eOf c i) := by
  have hd := dq_rng hc
  have hn := dqn_is hc
  have hp := mk_pos hc h0
  have t := top_is hc h0 h1
  have b := bot_is hc h0 h1
  have e := ent_is hc h0 h1 (Int.le_refl 0) (by omega)
  have l := ent_is hc h0 h1 (j := c.dq - 1) (by omega) (by omega)
  have lt := Lay.plc_lt (s := shOf c) (n8 i) (show 0 ≤ plcc c 8 i 0 by omega)
  have lb := Lay.plc_lt (s := shOf c) (n9 i) (show 0 ≤ plcc c 9 i 0 by omega)
  have ll := Lay.plc_lt (s := shOf c) (n10 i (c.dq - 1)) (show 0 ≤ plcc c 10 i (c.dq - 1) by omega)
  refine ⟨by omega, by omega, hn.symm, ⟨?_, lt⟩, ⟨?_, lb⟩, ?_, ⟨?_, ?_⟩, ?_, ?_⟩
  · show 0 ≤ plcc c 8 i 0; omega
  · show 0 ≤ plcc c 9 i 0; omega
  · show plcc c 8 i 0 ≠ plcc c 9 i 0; omega
  · show 0 ≤ plcc c 10 i 0; omega
  · show plcc c 10 i 0 + _ ≤ _
    have ll' : plcc c 10 i (c.dq - 1) < lenL (shOf c) := ll
    omega
  · show plcc c 8 i 0 < plcc c 10 i 0 ∨ _; left; omega
  · show plcc c 9 i 0 < plcc c 10 i 0 ∨ _; left; omega
/-- A word of a marker's deque is a thing of that marker. -/
theorem ine_thing {c : Cfg} (hc : OkC c) {i q : Int} (h0 : 0 ≤ i) (h1 : i < c.mr) (h : InE (dqn c) (eOf c i) q) : 0 ≤ q ∧ ∃ k j, (k = 8 ∨ k = 9 ∨ k = 10) ∧ Norm ⟨k, i, j⟩ ∧ q = plcc c k i j := by
  have hd := dq_rng hc
  have hn := dqn_is hc
  have hp := mk_pos hc h0
  rcases h with h | h | ⟨h2, h3⟩
  · have h' : q = plcc c 8 i 0 := h
    exact ⟨by rw [h', top_is hc h0 h1]; omega, 8, 0, .inl rfl, n8 i, h'⟩
  · have h' : q = plcc c 9 i 0 := h
    exact ⟨by rw [h', bot_is hc h0 h1]; omega, 9, 0, .inr (.inl rfl), n9 i, h'⟩
  · have h2' : plcc c 10 i 0 ≤ q := h2
    have h3' : q < plcc c 10 i 0 + (dqn c : Nat) := h3
    have e := ent_is hc h0 h1 (Int.le_refl 0) (by omega)
    have l := ent_is hc h0 h1 (j := q - plcc c 10 i 0) (by omega) (by omega)
    exact ⟨by omega, 10, q - plcc c 10 i 0, .inr (.inr rfl), n10 _ _, by omega⟩
theorem ine_apart {c : Cfg} (hc : OkC c) {i j : Int} (h0 : 0 ≤ i) (h1 : i < c.mr) (g0 : 0 ≤ j) (g1 : j < c.mr) (hne : i ≠ j) (q : Int) (h : InE (dqn c) (eOf c i) q) : ¬ InE (dqn c) (eOf c j) q := fun h' => by
  obtain ⟨p, k, x, _, nk, e⟩ := ine_thing hc h0 h1 h
  obtain ⟨_, k', x', _, nk', e'⟩ := ine_thing hc g0 g1 h'
  have := one_place nk nk' (e ▸ p) (e.symm.trans e')
  exact hne this.2.1
theorem ine_inp {c : Cfg} (hc : OkC c) {i : Int} (h0 : 0 ≤ i) (h1 : i < c.mr) (q : Int) (h : InE (dqn c) (eOf c i) q) : ¬ InP (pkn c) (gOf c) q := fun h' => by
  obtain ⟨p, k, x, hk, nk, e⟩ := ine_thing hc h0 h1 h
  have no : ∀ k' a' b', Norm ⟨k', a', b'⟩ → k' ≠ 8 → k' ≠ 9 → k' ≠ 10 → q ≠ plcc c k' a' b' := fun k' a' b' n' n1 n2 n3 e' => by
    have := one_place nk n' (e ▸ p) (e.symm.trans e')
    omega
  rcases h' with h' | h' | ⟨y, _, h' | h' | h'⟩
  · exact no 5 0 0 (nrm 5 0 0 (by omega) (by omega) (fun _ => rfl) (fun _ _ _ => rfl)) (by omega) (by omega) (by omega) h'
  · exact no 4 0 0 (nrm 4 0 0 (by omega) (by omega) (fun _ => rfl) (fun _ _ _ => rfl)) (by omega) (by omega) (by omega) h'
  · have h2 : q = atOf (lnkL c) y := h'
    rw [lnk_at hc] at h2
    exact no 12 y 0 (nrm 12 y 0 (by omega) (by omega) (fun h => by omega) (fun _ _ _ => rfl)) (by omega) (by omega) (by omega) h2
  · exact no 11 y 0 (nrm 11 y 0 (by omega) (by omega) (fun h => by omega) (fun _ _ _ => rfl)) (by omega) (by omega) (by omega) h'
  · exact no 13 y 0 (nrm 13 y 0 (by omega) (by omega) (fun h => by omega) (fun _ h _ => absurd rfl h)) (by omega) (by omega) (by omega) h'
theorem eok_of {c : Cfg} (hc : OkC c) (i : Int) : Dg.EnOk (eOf c i) := by
  have hd := dq_rng hc
  have h1 := Lay.plc_lo (shOf c) ⟨10, i, 0⟩
  have h2 := (Lay.bds hc).t55'
  have h3 := Lay.lenL_eq hc
  refine ⟨?_, ?_, ?_⟩
  · show -1000000000 ≤ plcc c 10 i 0
    have : plcc c 10 i 0 = plc (shOf c) ⟨10, i, 0⟩ := rfl
    omega
  · show plcc c 10 i 0 ≤ 1000000000
    by_cases h : 0 ≤ plcc c 10 i 0
    · have ll : plcc c 10 i 0 < lenL (shOf c) := Lay.plc_lt (s := shOf c) (n10 i 0) h
      omega
    · omega
  · show c.dq ≤ 1000000000; omega
/-- At first a deque is empty. -/
theorem fv_ends {c : Cfg} (k i : Int) (hk : k = 8 ∨ k = 9) : Lay.firstV c ⟨k, i, 0⟩ = 0 := by
  rcases hk with rfl | rfl <;> simp [Lay.firstV, Lay.stkV, Lay.VV, Lay.isTh, Lay.baseV]
theorem ends_first {c : Cfg} (hc : OkC c) {L : List Int} (h : Rep (shOf c) L (firstV c)) {i : Int} (h0 : 0 ≤ i) (h1 : i < c.mr) : L.getD (eOf c i).top.toNat 0 = 0 ∧ L.getD (eOf c i).bot.toNat 0 = 0 := by
  have hp := mk_pos hc h0
  constructor
  · show L.getD (plcc c 8 i 0).toNat 0 = 0
    rw [first_word h (n8 i) (by rw [top_is hc h0 h1]; omega), fv_ends 8 i (.inl rfl)]
  · show L.getD (plcc c 9 i 0).toNat 0 = 0
    rw [first_word h (n9 i) (by rw [bot_is hc h0 h1]; omega), fv_ends 9 i (.inr rfl)]
theorem dq_first {c : Cfg} (hc : OkC c) {L : List Int} (h : Rep (shOf c) L (firstV c)) {i : Int} (h0 : 0 ≤ i) (h1 : i < c.mr) : Dg.Dq (dqn c) (eOf c i) L 0 0 0 [] := by
  obtain ⟨z1, z2⟩ := ends_first hc h h0 h1
  exact ⟨by rw [h.1]; exact ge_of hc h0 h1, z1, by rw [z2]; rfl, by omega, by simp, by omega, by omega, fun i hi => by simp at hi⟩
end Go.Proofs.YtnfbjebhpljikaaGreat
