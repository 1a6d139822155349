/- Where a marker's deque stands, by a configuration. The law of what the pool holds: walked. What a task's machine knows are words. Where a marker's deque stands among a map's words: apart from other markers' deques, and from the packets. -/
import Derived.Test.YtponbnbgiiepdaaGreatJ13
import Derived.Test.YtponbnbgiiepdaaGreatAdPure
import Derived.Test.YtponbnbgiiepdaaGreatJ23
import Derived.Test.YtponbnbgiiepdaaGreatJ21
import Derived.Test.YtponbnbgiiepdaaGreatJ20
namespace Go.Proofs.YtponbnbgiiepdaaGreat
open Lay (plcc Cfg)
def eOf (c : Cfg) (i : Int) : Dg.En := ⟨plcc c 8 i 0, plcc c 9 i 0, plcc c 10 i 0, c.dq⟩
end Go.Proofs.YtponbnbgiiepdaaGreat

namespace Go.Proofs.YtponbnbgiiepdaaGreat
open Go.RowKit
set_option linter.unusedVariables false
set_option linter.unusedSimpArgs false
open Lay (plcc plc shOf packN nodesN OkC Cfg Norm firstV Rep lenL things)

/-! How machines begin. -/
theorem pw_idle (c : Cfg) (kd : Nat) (hk : kd = 1 ∨ kd = 2 ∨ kd = 3) : PW c 0 ⟨kd, 0, [], 0, 0, mnone⟩ :=
  ⟨hk, by simp, fun _ => .inl rfl, fun e => by simp at e, fun e => by simp at e, ⟨by simp, by simp⟩, by simp, by simp, ⟨by simp, by simp, fun e => by simp at e⟩, fun e => by simp at e, by omega⟩
theorem pw_put (c : Cfg) (ts : List Int) (h : ∀ z ∈ ts, 0 ≤ z ∧ z ≤ 18446744073709551615) : PW c 0 (pPut (gOf c) ts) := by
  unfold pPut
  split
  · exact pw_idle c 1 (.inl rfl)
  · rename_i hne
    have hl : (ts.take 4).length ≤ 4 := by simp; omega
    have hne' : ts.take 4 ≠ [] := by
      intro e
      cases ts with
      | nil => exact hne rfl
      | cons a l => simp at e
    have hp := List.length_pos_iff.2 hne'
    exact ⟨.inl rfl, by simp, fun e => absurd rfl e, fun _ => ⟨wm_pop _, rfl, rfl, by simp [mPop]⟩, fun e => by simp at e, ⟨by simp, by simp⟩, fun z hz => h z (List.mem_of_mem_take hz), hl, ⟨by simp, by simp, fun _ => by simp only; omega⟩, fun _ => ⟨hne', fun _ => rfl⟩, by omega⟩
theorem pw_take (c : Cfg) : PW c 0 (pTake (gOf c)) :=
  ⟨.inr (.inl rfl), by simp [pTake], fun _ => .inr rfl, fun e => by simp [pTake] at e, fun _ => ⟨wm_pop _, rfl, by simp [pTake, mPop]⟩, ⟨by simp [pTake], by simp [pTake]⟩, by simp [pTake], by simp [pTake], ⟨by simp [pTake], by simp [pTake], fun e => by simp [pTake] at e⟩, fun e => by simp [pTake] at e, by omega⟩
theorem pw_back (c : Cfg) (n : Nat) (p : Int) : PW c 0 (pBack n (gOf c) p) := by
  unfold pBack
  split
  · exact pw_idle c 3 (.inr (.inr rfl))
  · exact ⟨.inr (.inr rfl), by simp, fun _ => .inr rfl, fun e => by simp at e, fun _ => ⟨wm_push _ _, rfl, by simp [mPush]⟩, ⟨by simp, by simp⟩, by simp, by simp, ⟨by simp, by simp, fun e => by simp at e⟩, fun e => by simp at e, by omega⟩

section
variable {B S D N : Nat} {c : Cfg} {w0 w w' : World} {L : List Int} {k t : Int}
theorem PO.start {a : Ending} {L : List Int} (hb : Below B w0 w) (hB : B ≤ w0.heap.size) (hm : Lay.IsMap w N c) (hok : OkC c) (ww : WW L) (h : SomeNew w L a w') : ∃ S D, a = .returned (ptr S) ∧ PO B S D N c w0 w' L 0 ∧ Below w.heap.size w w' := by
  obtain ⟨S, D, rfl, hS, hD, hs, hb'⟩ := h
  have hN := hm.1
  have hBw := Nat.le_trans hB hb.size
  exact ⟨S, D, rfl, ⟨⟨0, by omega, by omega, hs⟩, hm.below hb', hok, ⟨by omega, by omega⟩, ⟨by omega, by omega, hB⟩, ww, below_step hb hBw hb'⟩, hb'⟩
theorem put_po (h : PO B S D N c w0 w L k) (at' v : Int) (hv : 0 ≤ v ∧ v ≤ 18446744073709551615) (hk : k ≤ 900000000) :
    Calls Tryz.prog 25 #[ptr S, .int .i64 at', .int .u64 v] w fun a w' => a = .returned (.tuple #[]) ∧ PO B S D N c w0 w' (ptq L at' v) (k + 1) ∧ UF (fun b => b = S ∨ b = D) w w' := by
  obtain ⟨cc, h0, h1, hs⟩ := h.st
  have hl := h.lt
  have hB := h.lo
  refine (put_any at' v w hs h0 (by omega)).mono ?_
  rintro a w1 ⟨rfl, l⟩
  rw [ptv_eq] at l
  have u := UF.of_upd l.2
  exact ⟨rfl, ⟨⟨cc + 1, by omega, by omega, l.1⟩, IsMap_same h.mp u.size (u.block N hl.2.2 (by have := h.ns; omega)), h.ok, h.ns, h.lo, h.ww.put _ hv, below_uf h.bel h.lo.2.2 u (fun b hb => by omega)⟩, u⟩
theorem load_po (h : PO B S D N c w0 w L k) (at' : Int) (hk : k ≤ 900000000) :
    Calls Tryz.prog 34 #[ptr S, .int .i64 at'] w fun a w' => a = .returned (.int .u64 (ldq L at')) ∧ PO B S D N c w0 w' L (k + 1) ∧ UF (fun b => b = S ∨ b = D) w w' := by
  obtain ⟨cc, h0, h1, hs⟩ := h.st
  have hl := h.lt
  have hB := h.lo
  refine (load_any at' w hs h0 (by omega)).mono ?_
  rintro a w1 ⟨rfl, l⟩
  have u := UF.of_upd l.2
  exact ⟨by rw [ldv_eq], ⟨⟨cc + 1, by omega, by omega, l.1⟩, IsMap_same h.mp u.size (u.block N hl.2.2 (by have := h.ns; omega)), h.ok, h.ns, h.lo, h.ww, below_uf h.bel h.lo.2.2 u (fun b hb => by omega)⟩, u⟩
theorem all_po (h : PO B S D N c w0 w L k) (hl : L.length ≤ 1000000) :
    Calls Tryz.prog 17 #[ptr S] w fun a w' => a = .returned (.slice (some ⟨w.heap.size, 0, none⟩) L.length L.length) ∧ Reads .u64 w' (some ⟨w.heap.size, 0, none⟩) L ∧ PO B S D N c w0 w' L k ∧ Below w.heap.size w w' := by
  obtain ⟨cc, h0, h1, hs⟩ := h.st
  refine (all_any w hs hl).mono ?_
  rintro a w1 ⟨rfl, hr, hb⟩
  exact ⟨rfl, hr.reads, h.step hb, hb⟩
/-- A machine that puts, taken through all its steps. -/
theorem UF.far {F : Nat → Prop} (u : UF F w w') {b : Nat} (hb : b < w.heap.size) (hF : ¬ F b) (o : Nat) : w'.cell? ⟨b, o, none⟩ = w.cell? ⟨b, o, none⟩ :=
  World.cell?_of_block (w := w) (a := ⟨b, o, none⟩) (u.block b hb hF)
end
end Go.Proofs.YtponbnbgiiepdaaGreat

namespace Go.Proofs.YtponbnbgiiepdaaGreat
open Go.RowKit
set_option linter.unusedVariables false
set_option linter.unusedSimpArgs false
set_option maxRecDepth 100000
open Lay (plcc plc shOf packN nodesN OkC Cfg Norm firstV Rep lenL things)

/-- What a push knows are words. -/
structure DW (d : Dg.Mc) : Prop where
  kd : d.kind = 1
  pc : d.pc ≤ 4
  ok : Dg.EnOk d.e
  b : 0 ≤ d.b ∧ d.b ≤ 18446744073709551615
  w : 0 ≤ d.w ∧ d.w ≤ 18446744073709551615
  t : 0 ≤ d.t
theorem u64w_rng (a : Int) : 0 ≤ Dg.u64w a ∧ Dg.u64w a ≤ 18446744073709551615 := by unfold Dg.u64w; omega
theorem DW.push {e : Dg.En} {x : Int} (ok : Dg.EnOk e) (hx : 0 ≤ x ∧ x ≤ 18446744073709551615) : DW (Dg.mPush e x) := ⟨rfl, by simp [Dg.mPush], ok, by simp [Dg.mPush], hx, by simp [Dg.mPush]⟩
theorem DW.step {d : Dg.Mc} {L : List Int} (h : DW d) (ww : WW L) : DW (Dg.stp L d).2 ∧ WW (Dg.stp L d).1 := by
  obtain ⟨kd, pc, e, b, t, x, won, out⟩ := d
  obtain ⟨h1, h2, h3, h4, h5, h6⟩ := h
  dsimp only at h1 h2 h3 h4 h5 h6
  subst h1
  have hp : pc = 0 ∨ pc = 1 ∨ pc = 2 ∨ pc = 3 ∨ pc = 4 := by omega
  rcases hp with rfl | rfl | rfl | rfl | rfl
  · have es : Dg.stp L ⟨1, 0, e, b, t, x, won, out⟩ = (L, ⟨1, 0, e, b, t, x, won, out⟩) := by simp [Dg.stp]
    rw [es]; exact ⟨⟨rfl, by simp, h3, h4, h5, h6⟩, ww⟩
  · have es : Dg.stp L ⟨1, 1, e, b, t, x, won, out⟩ = (L, ⟨1, 2, e, ldq L e.bot, t, x, won, out⟩) := by simp [Dg.stp, Dg.pushS]
    rw [es]; exact ⟨⟨rfl, by simp, h3, ww.ldq _, h5, h6⟩, ww⟩
  · by_cases hc : Dg.roomOf e ≤ Dg.ahead b (ldq L e.top)
    · have es : Dg.stp L ⟨1, 2, e, b, t, x, won, out⟩ = (L, ⟨1, 0, e, b, t, 0, won, 2⟩) := by simp [Dg.stp, Dg.pushS, hc, Dg.fin]
      rw [es]; exact ⟨⟨rfl, by simp, h3, h4, by simp, h6⟩, ww⟩
    · have es : Dg.stp L ⟨1, 2, e, b, t, x, won, out⟩ = (L, ⟨1, 3, e, b, ldq L e.top, x, won, out⟩) := by simp [Dg.stp, Dg.pushS, hc]
      rw [es]; exact ⟨⟨rfl, by simp, h3, h4, h5, (ww.ldq _).1⟩, ww⟩
  · have es : Dg.stp L ⟨1, 3, e, b, t, x, won, out⟩ = (ptq L (Dg.entOf e b) x, ⟨1, 4, e, b, t, x, won, out⟩) := by simp [Dg.stp, Dg.pushS]
    rw [es]; exact ⟨⟨rfl, by simp, h3, h4, h5, h6⟩, ww.put _ h5⟩
  · have es : Dg.stp L ⟨1, 4, e, b, t, x, won, out⟩ = (ptq L e.bot (Dg.u64w (b + 1)), ⟨1, 0, e, b, t, 0, won, 1⟩) := by simp [Dg.stp, Dg.pushS, Dg.fin]
    rw [es]; exact ⟨⟨rfl, by simp, h3, h4, by simp, h6⟩, ww.put _ (u64w_rng _)⟩
/-- What a task's machine knows are words; t: how often a part of the pool's has begun at most. -/
structure AW (c : Cfg) (t : Int) (m : Am) : Prop where
  pc : m.pc ≤ 2
  d : m.pc = 1 → DW m.d
  tk : 0 ≤ m.task ∧ m.task ≤ 18446744073709551615
  p : m.pc = 2 → PW c t m.p
  t0 : 0 ≤ t
theorem AW.new {c : Cfg} {e : Dg.En} {x : Int} (ok : Dg.EnOk e) (hx : 0 ≤ x ∧ x ≤ 18446744073709551615) : AW c 0 (aNew e x) := ⟨by simp [aNew], fun _ => DW.push ok hx, hx, fun e => by simp [aNew] at e, by omega⟩
theorem AW.mono {c : Cfg} {t u : Int} {m : Am} (h : AW c t m) (k : t ≤ u) : AW c u m := ⟨h.pc, h.d, h.tk, fun e => (h.p e).mono k, by have := h.t0; omega⟩
theorem AW.step {c : Cfg} {t : Int} {m : Am} {L : List Int} (h : AW c t m) (ww : WW L) : AW c (t + 1) (astp (gOf c) L m).2 ∧ WW (astp (gOf c) L m).1 := by
  have t0 := h.t0
  unfold astp
  by_cases p1 : m.pc = 1
  · rw [if_pos p1]
    obtain ⟨k1, k2⟩ := (h.d p1).step ww
    refine ⟨?_, k2⟩
    by_cases e1 : (Dg.stp L m.d).2.pc = 0
    · rw [if_pos e1]
      by_cases e2 : (Dg.stp L m.d).2.out = 2
      · rw [if_pos e2]
        exact ⟨by simp, fun e => by simp at e, h.tk, fun _ => (pw_put c [m.task] (by simpa using h.tk)).mono (by omega), by omega⟩
      · rw [if_neg e2]
        exact ⟨by simp, fun e => by simp at e, h.tk, fun e => by simp at e, by omega⟩
    · rw [if_neg e1]
      exact ⟨h.pc, fun _ => k1, h.tk, fun e => by simp only at e; omega, by omega⟩
  · rw [if_neg p1]
    by_cases p2 : m.pc = 2
    · rw [if_pos p2]
      obtain ⟨k1, k2⟩ := (h.p p2).step ww
      refine ⟨?_, k2⟩
      by_cases e1 : (pstp (gOf c) L m.p).2.pc = 0
      · rw [if_pos e1]
        exact ⟨by simp, fun e => by simp at e, h.tk, fun e => by simp at e, by omega⟩
      · rw [if_neg e1]
        exact ⟨h.pc, fun e => absurd e p1, h.tk, fun _ => k1, by omega⟩
    · rw [if_neg p2]
      exact ⟨h.mono (by omega), ww⟩

end Go.Proofs.YtponbnbgiiepdaaGreat

namespace Go.Proofs.YtponbnbgiiepdaaGreat
open Go.RowKit
set_option linter.unusedVariables false
open Lay (plcc plc shOf packN nodesN OkC Cfg Norm firstV Rep lenL)

theorem top_is {c : Cfg} (hc : OkC c) {i : Int} (h0 : 0 ≤ i) (h1 : i < c.mr) : plcc c 8 i 0 = Lay.at3 c + i * (2 + c.dq) := by
  rw [← Lay.plc_top hc i, Lay.wordL, if_pos (by omega)]; simp
theorem bot_is {c : Cfg} (hc : OkC c) {i : Int} (h0 : 0 ≤ i) (h1 : i < c.mr) : plcc c 9 i 0 = Lay.at3 c + i * (2 + c.dq) + 1 := by
  rw [← Lay.plc_bottom hc i, Lay.wordL, if_pos (by omega)]; simp
theorem ent_is {c : Cfg} (hc : OkC c) {i j : Int} (h0 : 0 ≤ i) (h1 : i < c.mr) (h2 : 0 ≤ j) (h3 : j < c.dq) : plcc c 10 i j = Lay.at3 c + i * (2 + c.dq) + (2 + j) := by
  rw [← Lay.plc_entry hc i j, Lay.itemL, if_pos (by omega), Lay.wordL, if_pos (by omega)]; simp
theorem dq_rng {c : Cfg} (hc : OkC c) : 1 ≤ c.dq ∧ c.dq ≤ 8 ∧ 1 ≤ c.mr := by
  obtain ⟨a0, a1, b0, b1, c0, c1, d0, d1, e0, e1, s0, k0, k1, u0, u1, q0, q1, h0, h1, f0, f1, r0, r1, w0, w1⟩ := hc
  exact ⟨by omega, by omega, by omega⟩
theorem mk_pos {c : Cfg} (hc : OkC c) {i : Int} (h0 : 0 ≤ i) : 0 ≤ Lay.at3 c + i * (2 + c.dq) := by
  have := (Lay.bds hc).t3
  have := dq_rng hc
  have := Int.mul_nonneg h0 (by omega : 0 ≤ 2 + c.dq)
  omega
def dqn (c : Cfg) : Nat := c.dq.toNat
theorem dqn_is {c : Cfg} (hc : OkC c) : ((dqn c : Nat) : Int) = c.dq := by have := dq_rng hc; unfold dqn; omega
theorem n8 (i : Int) : Norm ⟨8, i, 0⟩ := nrm 8 i 0 (by omega) (by omega) (fun h => by omega) (fun _ _ _ => rfl)
theorem n9 (i : Int) : Norm ⟨9, i, 0⟩ := nrm 9 i 0 (by omega) (by omega) (fun h => by omega) (fun _ _ _ => rfl)
theorem n10 (i j : Int) : Norm ⟨10, i, j⟩ := nrm 10 i j (by omega) (by omega) (fun h => by omega) (fun h _ _ => absurd rfl h)
theorem ge_of {c : Cfg} (hc : OkC c) {i : Int} (h0 : 0 ≤ i) (h1 : i < c.mr) : Dg.Ge (dqn c) (lenL (shOf c)) (eOf c i) := by
  have hd := dq_rng hc
  have hn := dqn_is hc
  have hp := mk_pos hc h0
  have t := top_is hc h0 h1
  have b := bot_is hc h0 h1
  have e := ent_is hc h0 h1 (Int.le_refl 0) (by omega)
  have l := ent_is hc h0 h1 (j := c.dq - 1) (by omega) (by omega)
  have lt := Lay.plc_lt (s := shOf c) (n8 i) (show 0 ≤ plcc c 8 i 0 by omega)
  have lb := Lay.plc_lt (s := shOf c) (n9 i) (show 0 ≤ plcc c 9 i 0 by omega)
  have ll := Lay.plc_lt (s := shOf c) (n10 i (c.dq - 1)) (show 0 ≤ plcc c 10 i (c.dq - 1) by omega)
  refine ⟨by omega, by omega, hn.symm, ⟨?_, lt⟩, ⟨?_, lb⟩, ?_, ⟨?_, ?_⟩, ?_, ?_⟩
  · show 0 ≤ plcc c 8 i 0; omega
  · show 0 ≤ plcc c 9 i 0; omega
  · show plcc c 8 i 0 ≠ plcc c 9 i 0; omega
  · show 0 ≤ plcc c 10 i 0; omega
  · show plcc c 10 i 0 + _ ≤ _
    have ll' : plcc c 10 i (c.dq - 1) < lenL (shOf c) := ll
    omega
  · show plcc c 8 i 0 < plcc c 10 i 0 ∨ _; left; omega
  · show plcc c 9 i 0 < plcc c 10 i 0 ∨ _; left; omega
/-- A word of a marker's deque is a thing of that marker. -/
theorem ine_thing {c : Cfg} (hc : OkC c) {i q : Int} (h0 : 0 ≤ i) (h1 : i < c.mr) (h : InE (dqn c) (eOf c i) q) : 0 ≤ q ∧ ∃ k j, (k = 8 ∨ k = 9 ∨ k = 10) ∧ Norm ⟨k, i, j⟩ ∧ q = plcc c k i j := by
  have hd := dq_rng hc
  have hn := dqn_is hc
  have hp := mk_pos hc h0
  rcases h with h | h | ⟨h2, h3⟩
  · have h' : q = plcc c 8 i 0 := h
    exact ⟨by rw [h', top_is hc h0 h1]; omega, 8, 0, .inl rfl, n8 i, h'⟩
  · have h' : q = plcc c 9 i 0 := h
    exact ⟨by rw [h', bot_is hc h0 h1]; omega, 9, 0, .inr (.inl rfl), n9 i, h'⟩
  · have h2' : plcc c 10 i 0 ≤ q := h2
    have h3' : q < plcc c 10 i 0 + (dqn c : Nat) := h3
    have e := ent_is hc h0 h1 (Int.le_refl 0) (by omega)
    have l := ent_is hc h0 h1 (j := q - plcc c 10 i 0) (by omega) (by omega)
    exact ⟨by omega, 10, q - plcc c 10 i 0, .inr (.inr rfl), n10 _ _, by omega⟩
theorem ine_apart {c : Cfg} (hc : OkC c) {i j : Int} (h0 : 0 ≤ i) (h1 : i < c.mr) (g0 : 0 ≤ j) (g1 : j < c.mr) (hne : i ≠ j) (q : Int) (h : InE (dqn c) (eOf c i) q) : ¬ InE (dqn c) (eOf c j) q := fun h' => by
  obtain ⟨p, k, x, _, nk, e⟩ := ine_thing hc h0 h1 h
  obtain ⟨_, k', x', _, nk', e'⟩ := ine_thing hc g0 g1 h'
  have := one_place nk nk' (e ▸ p) (e.symm.trans e')
  exact hne this.2.1
theorem ine_inp {c : Cfg} (hc : OkC c) {i : Int} (h0 : 0 ≤ i) (h1 : i < c.mr) (q : Int) (h : InE (dqn c) (eOf c i) q) : ¬ InP (pkn c) (gOf c) q := fun h' => by
  obtain ⟨p, k, x, hk, nk, e⟩ := ine_thing hc h0 h1 h
  have no : ∀ k' a' b', Norm ⟨k', a', b'⟩ → k' ≠ 8 → k' ≠ 9 → k' ≠ 10 → q ≠ plcc c k' a' b' := fun k' a' b' n' n1 n2 n3 e' => by
    have := one_place nk n' (e ▸ p) (e.symm.trans e')
    omega
  rcases h' with h' | h' | ⟨y, _, h' | h' | h'⟩
  · exact no 5 0 0 (nrm 5 0 0 (by omega) (by omega) (fun _ => rfl) (fun _ _ _ => rfl)) (by omega) (by omega) (by omega) h'
  · exact no 4 0 0 (nrm 4 0 0 (by omega) (by omega) (fun _ => rfl) (fun _ _ _ => rfl)) (by omega) (by omega) (by omega) h'
  · have h2 : q = atOf (lnkL c) y := h'
    rw [lnk_at hc] at h2
    exact no 12 y 0 (nrm 12 y 0 (by omega) (by omega) (fun h => by omega) (fun _ _ _ => rfl)) (by omega) (by omega) (by omega) h2
  · exact no 11 y 0 (nrm 11 y 0 (by omega) (by omega) (fun h => by omega) (fun _ _ _ => rfl)) (by omega) (by omega) (by omega) h'
  · exact no 13 y 0 (nrm 13 y 0 (by omega) (by omega) (fun h => by omega) (fun _ h _ => absurd rfl h)) (by omega) (by omega) (by omega) h'
theorem eok_of {c : Cfg} (hc : OkC c) (i : Int) : Dg.EnOk (eOf c i) := by
  have hd := dq_rng hc
  have h1 := Lay.plc_lo (shOf c) ⟨10, i, 0⟩
  have h2 := (Lay.bds hc).t55'
  have h3 := Lay.lenL_eq hc
  refine ⟨?_, ?_, ?_⟩
  · show -1000000000 ≤ plcc c 10 i 0
    have : plcc c 10 i 0 = plc (shOf c) ⟨10, i, 0⟩ := rfl
    omega
  · show plcc c 10 i 0 ≤ 1000000000
    by_cases h : 0 ≤ plcc c 10 i 0
    · have ll : plcc c 10 i 0 < lenL (shOf c) := Lay.plc_lt (s := shOf c) (n10 i 0) h
      omega
    · omega
  · show c.dq ≤ 1000000000; omega
/-- At first a deque is empty. -/
theorem fv_ends {c : Cfg} (k i : Int) (hk : k = 8 ∨ k = 9) : Lay.firstV c ⟨k, i, 0⟩ = 0 := by
  rcases hk with rfl | rfl <;> simp [Lay.firstV, Lay.stkV, Lay.VV, Lay.isTh, Lay.baseV]
theorem ends_first {c : Cfg} (hc : OkC c) {L : List Int} (h : Rep (shOf c) L (firstV c)) {i : Int} (h0 : 0 ≤ i) (h1 : i < c.mr) : L.getD (eOf c i).top.toNat 0 = 0 ∧ L.getD (eOf c i).bot.toNat 0 = 0 := by
  have hp := mk_pos hc h0
  constructor
  · show L.getD (plcc c 8 i 0).toNat 0 = 0
    rw [first_word h (n8 i) (by rw [top_is hc h0 h1]; omega), fv_ends 8 i (.inl rfl)]
  · show L.getD (plcc c 9 i 0).toNat 0 = 0
    rw [first_word h (n9 i) (by rw [bot_is hc h0 h1]; omega), fv_ends 9 i (.inr rfl)]
theorem dq_first {c : Cfg} (hc : OkC c) {L : List Int} (h : Rep (shOf c) L (firstV c)) {i : Int} (h0 : 0 ≤ i) (h1 : i < c.mr) : Dg.Dq (dqn c) (eOf c i) L 0 0 0 [] := by
  obtain ⟨z1, z2⟩ := ends_first hc h h0 h1
  exact ⟨by rw [h.1]; exact ge_of hc h0 h1, z1, by rw [z2]; rfl, by omega, by simp, by omega, by omega, fun i hi => by simp at hi⟩
end Go.Proofs.YtponbnbgiiepdaaGreat
