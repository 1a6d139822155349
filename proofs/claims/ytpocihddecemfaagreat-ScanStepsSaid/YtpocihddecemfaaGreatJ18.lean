/-  -/
import Derived.Test.YtpocihddecemfaaGreatJ14
import Derived.Test.YtpocihddecemfaaGreatJ3
import Derived.Test.YtpocihddecemfaaGreatJ15
import Derived.Test.YtpocihddecemfaaGreatJ16
import Derived.Test.YtpocihddecemfaaGreatJ7
import Derived.Test.YtpocihddecemfaaGreatJ17
import Derived.Test.YtpocihddecemfaaGreatAdM
import Derived.Test.YtpocihddecemfaaGreatJ22
import Derived.Test.YtpocihddecemfaaGreatRefAd
namespace Go.Proofs.YtpocihddecemfaaGreat
open Go.RowKit
set_option linter.unusedVariables false
set_option linter.unusedSimpArgs false
open Lay (plcc plc shOf packN nodesN OkC Cfg Norm firstV Rep lenL things)
structure PO (B S D N : Nat) (c : Cfg) (w0 w : World) (L : List Int) (k : Int) : Prop where
  st : ∃ cc, 0 ≤ cc ∧ cc ≤ k ∧ St w S D L cc
  mp : Lay.IsMap w N c
  ok : OkC c
  ns : N ≠ S ∧ N ≠ D
  lo : B ≤ S ∧ B ≤ D ∧ B ≤ w0.heap.size
  ww : WW L
  bel : Below B w0 w
section
variable {B S D N : Nat} {c : Cfg} {w0 w w' : World} {L : List Int} {k t : Int} {X lo : Nat} {m : Pm}
theorem PO.lt (h : PO B S D N c w0 w L k) : S < w.heap.size ∧ D < w.heap.size ∧ N < w.heap.size := by
  obtain ⟨cc, _, _, hs⟩ := h.st; exact ⟨hs.ltS, hs.row.lt, h.mp.1⟩
theorem PO.step (h : PO B S D N c w0 w L k) (hb : Below w.heap.size w w') : PO B S D N c w0 w' L k := by
  obtain ⟨cc, h0, h1, hs⟩ := h.st
  exact ⟨⟨cc, h0, h1, hs.below hb⟩, h.mp.below hb, h.ok, h.ns, h.lo, h.ww, below_step h.bel (Nat.le_trans h.lo.2.2 h.bel.size) hb⟩
theorem PO.more (h : PO B S D N c w0 w L k) {k' : Int} (hk : k ≤ k') : PO B S D N c w0 w L k' := by
  obtain ⟨cc, h0, h1, hs⟩ := h.st
  exact ⟨⟨cc, h0, by omega, hs⟩, h.mp, h.ok, h.ns, h.lo, h.ww, h.bel⟩
end
end Go.Proofs.YtpocihddecemfaaGreat

namespace Go.Proofs.YtpocihddecemfaaGreat
open Go.RowKit
set_option linter.unusedVariables false
set_option linter.unusedSimpArgs false
open Lay (plcc plc shOf packN nodesN OkC Cfg Norm firstV Rep lenL things)
def ints (k : IntKind) (l : List Int) : List Value := l.map (Value.int k)
structure HS (S D N bq off : Nat) (Q : List Int) (c : Cfg) (w0 wr : World) (L : List Int) (k : Int) (v : Value) (l : List Int) : Prop where
  po : PO w0.heap.size S D N c w0 wr L k
  q : 0 < Q.length → bq < wr.heap.size ∧ bq ≠ S ∧ bq ≠ D ∧ w0.heap.size ≤ bq
  qc : ∀ j, j < Q.length → wr.cell? ⟨bq, off + j, none⟩ = some (.int .i64 (Q.getD j 0))
  o : ∃ o, QVO 25 o wr v (ints .u64 l) ∧ ∀ b, o = some b → w0.heap.size ≤ b ∧ b ≠ S ∧ b ≠ D ∧ b ≠ N ∧ (0 < Q.length → b ≠ bq)
section
variable {S D N bq off : Nat} {Q : List Int} {c : Cfg} {w0 wr w' : World} {L : List Int} {k : Int} {v : Value} {l : List Int}
end
end Go.Proofs.YtpocihddecemfaaGreat

namespace Go.Proofs.YtpocihddecemfaaGreat
open Go.RowKit
set_option linter.unusedVariables false
set_option linter.unusedSimpArgs false
open Lay (plcc plc shOf packN nodesN OkC Cfg Norm firstV Rep lenL things)
theorem pw_idle (c : Cfg) (kd : Nat) (hk : kd = 1 ∨ kd = 2 ∨ kd = 3) : PW c 0 ⟨kd, 0, [], 0, 0, mnone⟩ :=
  ⟨hk, by simp, fun _ => .inl rfl, fun e => by simp at e, fun e => by simp at e, ⟨by simp, by simp⟩, by simp, by simp, ⟨by simp, by simp, fun e => by simp at e⟩, fun e => by simp at e, by omega⟩
theorem pw_put (c : Cfg) (ts : List Int) (h : ∀ z ∈ ts, 0 ≤ z ∧ z ≤ 18446744073709551615) : PW c 0 (pPut (gOf c) ts) := by
  unfold pPut
  split
  · exact pw_idle c 1 (.inl rfl)
  · rename_i hne
    have hl : (ts.take 4).length ≤ 4 := by simp; omega
    have hne' : ts.take 4 ≠ [] := by
      intro e
      cases ts with
      | nil => exact hne rfl
      | cons a l => simp at e
    have hp := List.length_pos_iff.2 hne'
    exact ⟨.inl rfl, by simp, fun e => absurd rfl e, fun _ => ⟨wm_pop _, rfl, rfl, by simp [mPop]⟩, fun e => by simp at e, ⟨by simp, by simp⟩, fun z hz => h z (List.mem_of_mem_take hz), hl, ⟨by simp, by simp, fun _ => by simp only; omega⟩, fun _ => ⟨hne', fun _ => rfl⟩, by omega⟩
section
variable {B S D N : Nat} {c : Cfg} {w0 w w' : World} {L : List Int} {k t : Int}
theorem PO.start {a : Ending} {L : List Int} (hb : Below B w0 w) (hB : B ≤ w0.heap.size) (hm : Lay.IsMap w N c) (hok : OkC c) (ww : WW L) (h : SomeNew w L a w') : ∃ S D, a = .returned (ptr S) ∧ PO B S D N c w0 w' L 0 ∧ Below w.heap.size w w' := by
  obtain ⟨S, D, rfl, hS, hD, hs, hb'⟩ := h
  have hN := hm.1
  have hBw := Nat.le_trans hB hb.size
  exact ⟨S, D, rfl, ⟨⟨0, by omega, by omega, hs⟩, hm.below hb', hok, ⟨by omega, by omega⟩, ⟨by omega, by omega, hB⟩, ww, below_step hb hBw hb'⟩, hb'⟩
theorem put_po (h : PO B S D N c w0 w L k) (at' v : Int) (hv : 0 ≤ v ∧ v ≤ 18446744073709551615) (hk : k ≤ 900000000) :
    Calls Tryz.prog 21 #[ptr S, .int .i64 at', .int .u64 v] w fun a w' => a = .returned (.tuple #[]) ∧ PO B S D N c w0 w' (ptq L at' v) (k + 1) ∧ UF (fun b => b = S ∨ b = D) w w' := by
  obtain ⟨cc, h0, h1, hs⟩ := h.st
  have hl := h.lt
  have hB := h.lo
  refine (put_any at' v w hs h0 (by omega)).mono ?_
  rintro a w1 ⟨rfl, l⟩
  rw [ptv_eq] at l
  have u := UF.of_upd l.2
  exact ⟨rfl, ⟨⟨cc + 1, by omega, by omega, l.1⟩, IsMap_same h.mp u.size (u.block N hl.2.2 (by have := h.ns; omega)), h.ok, h.ns, h.lo, h.ww.put _ hv, below_uf h.bel h.lo.2.2 u (fun b hb => by omega)⟩, u⟩
theorem load_po (h : PO B S D N c w0 w L k) (at' : Int) (hk : k ≤ 900000000) :
    Calls Tryz.prog 27 #[ptr S, .int .i64 at'] w fun a w' => a = .returned (.int .u64 (ldq L at')) ∧ PO B S D N c w0 w' L (k + 1) ∧ UF (fun b => b = S ∨ b = D) w w' := by
  obtain ⟨cc, h0, h1, hs⟩ := h.st
  have hl := h.lt
  have hB := h.lo
  refine (load_any at' w hs h0 (by omega)).mono ?_
  rintro a w1 ⟨rfl, l⟩
  have u := UF.of_upd l.2
  exact ⟨by rw [ldv_eq], ⟨⟨cc + 1, by omega, by omega, l.1⟩, IsMap_same h.mp u.size (u.block N hl.2.2 (by have := h.ns; omega)), h.ok, h.ns, h.lo, h.ww, below_uf h.bel h.lo.2.2 u (fun b hb => by omega)⟩, u⟩
theorem all_po (h : PO B S D N c w0 w L k) (hl : L.length ≤ 1000000) :
    Calls Tryz.prog 13 #[ptr S] w fun a w' => a = .returned (.slice (some ⟨w.heap.size, 0, none⟩) L.length L.length) ∧ Reads .u64 w' (some ⟨w.heap.size, 0, none⟩) L ∧ PO B S D N c w0 w' L k ∧ Below w.heap.size w w' := by
  obtain ⟨cc, h0, h1, hs⟩ := h.st
  refine (all_any w hs hl).mono ?_
  rintro a w1 ⟨rfl, hr, hb⟩
  exact ⟨rfl, hr.reads, h.step hb, hb⟩
end
end Go.Proofs.YtpocihddecemfaaGreat

namespace Go.Proofs.YtpocihddecemfaaGreat
open Go.RowKit
set_option linter.unusedVariables false
set_option linter.unusedSimpArgs false
set_option maxRecDepth 100000
open Lay (plcc plc shOf packN nodesN OkC Cfg Norm firstV Rep lenL things)
structure DW (d : Dg.Mc) : Prop where
  kd : d.kind = 1
  pc : d.pc ≤ 4
  ok : Dg.EnOk d.e
  b : 0 ≤ d.b ∧ d.b ≤ 18446744073709551615
  w : 0 ≤ d.w ∧ d.w ≤ 18446744073709551615
  t : 0 ≤ d.t
theorem u64w_rng (a : Int) : 0 ≤ Dg.u64w a ∧ Dg.u64w a ≤ 18446744073709551615 := by unfold Dg.u64w; omega
theorem DW.push {e : Dg.En} {x : Int} (ok : Dg.EnOk e) (hx : 0 ≤ x ∧ x ≤ 18446744073709551615) : DW (Dg.mPush e x) := ⟨rfl, by simp [Dg.mPush], ok, by simp [Dg.mPush], hx, by simp [Dg.mPush]⟩
theorem DW.step {d : Dg.Mc} {L : List Int} (h : DW d) (ww : WW L) : DW (Dg.stp L d).2 ∧ WW (Dg.stp L d).1 := by
  obtain ⟨kd, pc, e, b, t, x, won, out⟩ := d
  obtain ⟨h1, h2, h3, h4, h5, h6⟩ := h
  dsimp only at h1 h2 h3 h4 h5 h6
  subst h1
  have hp : pc = 0 ∨ pc = 1 ∨ pc = 2 ∨ pc = 3 ∨ pc = 4 := by omega
  rcases hp with rfl | rfl | rfl | rfl | rfl
  · have es : Dg.stp L ⟨1, 0, e, b, t, x, won, out⟩ = (L, ⟨1, 0, e, b, t, x, won, out⟩) := by simp [Dg.stp]
    rw [es]; exact ⟨⟨rfl, by simp, h3, h4, h5, h6⟩, ww⟩
  · have es : Dg.stp L ⟨1, 1, e, b, t, x, won, out⟩ = (L, ⟨1, 2, e, ldq L e.bot, t, x, won, out⟩) := by simp [Dg.stp, Dg.pushS]
    rw [es]; exact ⟨⟨rfl, by simp, h3, ww.ldq _, h5, h6⟩, ww⟩
  · by_cases hc : Dg.roomOf e ≤ Dg.ahead b (ldq L e.top)
    · have es : Dg.stp L ⟨1, 2, e, b, t, x, won, out⟩ = (L, ⟨1, 0, e, b, t, 0, won, 2⟩) := by simp [Dg.stp, Dg.pushS, hc, Dg.fin]
      rw [es]; exact ⟨⟨rfl, by simp, h3, h4, by simp, h6⟩, ww⟩
    · have es : Dg.stp L ⟨1, 2, e, b, t, x, won, out⟩ = (L, ⟨1, 3, e, b, ldq L e.top, x, won, out⟩) := by simp [Dg.stp, Dg.pushS, hc]
      rw [es]; exact ⟨⟨rfl, by simp, h3, h4, h5, (ww.ldq _).1⟩, ww⟩
  · have es : Dg.stp L ⟨1, 3, e, b, t, x, won, out⟩ = (ptq L (Dg.entOf e b) x, ⟨1, 4, e, b, t, x, won, out⟩) := by simp [Dg.stp, Dg.pushS]
    rw [es]; exact ⟨⟨rfl, by simp, h3, h4, h5, h6⟩, ww.put _ h5⟩
  · have es : Dg.stp L ⟨1, 4, e, b, t, x, won, out⟩ = (ptq L e.bot (Dg.u64w (b + 1)), ⟨1, 0, e, b, t, 0, won, 1⟩) := by simp [Dg.stp, Dg.pushS, Dg.fin]
    rw [es]; exact ⟨⟨rfl, by simp, h3, h4, by simp, h6⟩, ww.put _ (u64w_rng _)⟩
structure AW (c : Cfg) (t : Int) (m : Am) : Prop where
  pc : m.pc ≤ 2
  d : m.pc = 1 → DW m.d
  tk : 0 ≤ m.task ∧ m.task ≤ 18446744073709551615
  p : m.pc = 2 → PW c t m.p
  t0 : 0 ≤ t
theorem AW.new {c : Cfg} {e : Dg.En} {x : Int} (ok : Dg.EnOk e) (hx : 0 ≤ x ∧ x ≤ 18446744073709551615) : AW c 0 (aNew e x) := ⟨by simp [aNew], fun _ => DW.push ok hx, hx, fun e => by simp [aNew] at e, by omega⟩
theorem AW.mono {c : Cfg} {t u : Int} {m : Am} (h : AW c t m) (k : t ≤ u) : AW c u m := ⟨h.pc, h.d, h.tk, fun e => (h.p e).mono k, by have := h.t0; omega⟩
theorem AW.step {c : Cfg} {t : Int} {m : Am} {L : List Int} (h : AW c t m) (ww : WW L) : AW c (t + 1) (astp (gOf c) L m).2 ∧ WW (astp (gOf c) L m).1 := by
  have t0 := h.t0
  unfold astp
  by_cases p1 : m.pc = 1
  · rw [if_pos p1]
    obtain ⟨k1, k2⟩ := (h.d p1).step ww
    refine ⟨?_, k2⟩
    by_cases e1 : (Dg.stp L m.d).2.pc = 0
    · rw [if_pos e1]
      by_cases e2 : (Dg.stp L m.d).2.out = 2
      · rw [if_pos e2]
        exact ⟨by simp, fun e => by simp at e, h.tk, fun _ => (pw_put c [m.task] (by simpa using h.tk)).mono (by omega), by omega⟩
      · rw [if_neg e2]
        exact ⟨by simp, fun e => by simp at e, h.tk, fun e => by simp at e, by omega⟩
    · rw [if_neg e1]
      exact ⟨h.pc, fun _ => k1, h.tk, fun e => by simp only at e; omega, by omega⟩
  · rw [if_neg p1]
    by_cases p2 : m.pc = 2
    · rw [if_pos p2]
      obtain ⟨k1, k2⟩ := (h.p p2).step ww
      refine ⟨?_, k2⟩
      by_cases e1 : (pstp (gOf c) L m.p).2.pc = 0
      · rw [if_pos e1]
        exact ⟨by simp, fun e => by simp at e, h.tk, fun e => by simp at e, by omega⟩
      · rw [if_neg e1]
        exact ⟨h.pc, fun e => absurd e p1, h.tk, fun _ => k1, by omega⟩
    · rw [if_neg p2]
      exact ⟨h.mono (by omega), ww⟩
end Go.Proofs.YtpocihddecemfaaGreat

namespace Go.Proofs.YtpocihddecemfaaGreat
open Go.RowKit
set_option linter.unusedVariables false
set_option linter.unusedSimpArgs false
set_option maxRecDepth 100000
open Lay (plcc plc shOf packN nodesN OkC Cfg Norm firstV Rep lenL things)
set_option maxHeartbeats 2000000 in
theorem goOn_d (w : World) (X M S : Nat) (b : Bool) (Q R : World → Prop)
    (HS : Calls Tryz.prog 138 #[ptr M, ptr S] w fun e w' => e = .returned (.bool b) ∧ Q w')
    (HT : b = true → ∀ w1, Q w1 → Calls Tryz.prog 139 #[ptr X] w1 fun e w' => e = .returned (.tuple #[]) ∧ R w')
    (HF : b = false → ∀ w1, Q w1 → R w1) :
    Calls Tryz.prog 137 #[.func (.func 138) #[] #[], ptr M, ptr S, fnv 139 X] w fun e w' => e = .returned (.tuple #[]) ∧ R w' := by
  cases b
  · have HSS := Lib.hid HS; have HFF := Lib.hid (HF rfl)
    clear HS HT HF
    go_enter Tryz.func137, Tryz.ntmps137
    go_wp2_with (first
      | (go_at_call 138; (with_reducible refine HSS.out.mono ?_); rintro r w1 ⟨rfl, hq⟩; have HR := Lib.hid (HFF.out w1 hq); clear hq)
      | fail)
    go_returns
    exact ⟨rfl, HR.out⟩
  · have HSS := Lib.hid HS; have HTT := Lib.hid (HT rfl)
    clear HS HT HF
    go_enter Tryz.func137, Tryz.ntmps137
    go_wp2_with (first
      | (go_at_call 138; (with_reducible refine HSS.out.mono ?_); rintro r w1 ⟨rfl, hq⟩; have HQ := Lib.hid hq; clear hq)
      | (go_at_call 139; (with_reducible refine (HTT.out _ HQ.out).mono ?_); rintro r w2 ⟨rfl, hr⟩; have HR := Lib.hid hr; clear hr)
      | fail)
    go_returns
    exact ⟨rfl, HR.out⟩
set_option maxHeartbeats 2000000 in
theorem goOn_p (w : World) (X M S : Nat) (b : Bool) (Q R : World → Prop)
    (HS : Calls Tryz.prog 154 #[ptr M, ptr S] w fun e w' => e = .returned (.bool b) ∧ Q w')
    (HT : b = true → ∀ w1, Q w1 → Calls Tryz.prog 145 #[ptr X] w1 fun e w' => e = .returned (.tuple #[]) ∧ R w')
    (HF : b = false → ∀ w1, Q w1 → R w1) :
    Calls Tryz.prog 153 #[.func (.func 154) #[] #[], ptr M, ptr S, fnv 145 X] w fun e w' => e = .returned (.tuple #[]) ∧ R w' := by
  cases b
  · have HSS := Lib.hid HS; have HFF := Lib.hid (HF rfl)
    clear HS HT HF
    go_enter Tryz.func153, Tryz.ntmps153
    go_wp2_with (first
      | (go_at_call 154; (with_reducible refine HSS.out.mono ?_); rintro r w1 ⟨rfl, hq⟩; have HR := Lib.hid (HFF.out w1 hq); clear hq)
      | fail)
    go_returns
    exact ⟨rfl, HR.out⟩
  · have HSS := Lib.hid HS; have HTT := Lib.hid (HT rfl)
    clear HS HT HF
    go_enter Tryz.func153, Tryz.ntmps153
    go_wp2_with (first
      | (go_at_call 154; (with_reducible refine HSS.out.mono ?_); rintro r w1 ⟨rfl, hq⟩; have HQ := Lib.hid hq; clear hq)
      | (go_at_call 145; (with_reducible refine (HTT.out _ HQ.out).mono ?_); rintro r w2 ⟨rfl, hr⟩; have HR := Lib.hid hr; clear hr)
      | fail)
    go_returns
    exact ⟨rfl, HR.out⟩
set_option maxHeartbeats 2000000 in
theorem pushTask_raw {w : World} {X N M S : Nat} {t : Int} {nx pt : Value} (h : Ab w X N t nx (ptr M) pt) (b : Bool) (Q R : World → Prop)
    (HS : Calls Tryz.prog 138 #[ptr M, ptr S] w fun e w' => e = .returned (.bool b) ∧ Q w')
    (HT : b = true → ∀ w1, Q w1 → Calls Tryz.prog 139 #[ptr X] w1 fun e w' => e = .returned (.tuple #[]) ∧ R w')
    (HF : b = false → ∀ w1, Q w1 → R w1) :
    Calls Tryz.prog 127 #[ptr X, ptr S] w fun e w' => e = .returned (.tuple #[]) ∧ R w' := by
  have hmf : ∀ (fn : Fn) (first cap : Array Value) (w : World), (Instr.makeFunc fn first cap).run Tryz.prog w = .ok (.func fn first cap) w := fun _ _ _ _ => rfl
  have HG := Lib.hid (goOn_d w X M S b Q R HS HT HF)
  have q3 := h.c3
  clear HS HT HF h
  go_enter Tryz.func127, Tryz.ntmps127
  go_wp2_with (first
    | (go_at_call 137; (with_reducible refine HG.out.mono ?_); rintro r w1 ⟨rfl, hr⟩; have HR := Lib.hid hr; clear hr)
    | fail)
  go_returns
  exact ⟨rfl, HR.out⟩
set_option maxHeartbeats 2000000 in
theorem putTask_raw {w : World} {X N M S : Nat} {t : Int} {nx ps : Value} (h : Ab w X N t nx ps (ptr M)) (b : Bool) (Q R : World → Prop)
    (HS : Calls Tryz.prog 154 #[ptr M, ptr S] w fun e w' => e = .returned (.bool b) ∧ Q w')
    (HT : b = true → ∀ w1, Q w1 → Calls Tryz.prog 145 #[ptr X] w1 fun e w' => e = .returned (.tuple #[]) ∧ R w')
    (HF : b = false → ∀ w1, Q w1 → R w1) :
    Calls Tryz.prog 147 #[ptr X, ptr S] w fun e w' => e = .returned (.tuple #[]) ∧ R w' := by
  have hmf : ∀ (fn : Fn) (first cap : Array Value) (w : World), (Instr.makeFunc fn first cap).run Tryz.prog w = .ok (.func fn first cap) w := fun _ _ _ _ => rfl
  have HG := Lib.hid (goOn_p w X M S b Q R HS HT HF)
  have q4 := h.c4
  clear HS HT HF h
  go_enter Tryz.func147, Tryz.ntmps147
  go_wp2_with (first
    | (go_at_call 153; (with_reducible refine HG.out.mono ?_); rintro r w1 ⟨rfl, hr⟩; have HR := Lib.hid hr; clear hr)
    | fail)
  go_returns
  exact ⟨rfl, HR.out⟩
set_option maxHeartbeats 1000000 in
theorem astep_raw (w : World) (X S f : Nat) (c2 : w.cell? ⟨X, 2, none⟩ = some (fnv f X)) (hen : ∀ a w, (callFunc f a).run Tryz.prog w = .ok (.enter f a) w) (b : Bool) (Q : World → Prop)
    (HN : Calls Tryz.prog f #[ptr X, ptr S] w fun e w' => e = .returned (.tuple #[]) ∧ Q w') (hQ : ∀ w', Q w' → (b = true ∧ w'.cell? ⟨X, 2, none⟩ = some .nilFunc) ∨ (b = false ∧ ∃ f', w'.cell? ⟨X, 2, none⟩ = some (fnv f' X))) :
    Calls Tryz.prog 128 #[ptr X, ptr S] w fun e w' => e = .returned (.bool b) ∧ Q w' := by
  cases b
  · have HNN := Lib.hid HN; have HQ := Lib.hid hQ; clear HN hQ
    go_enter Tryz.func128, Tryz.ntmps128
    go_wp2_with (first
      | ((with_reducible refine HNN.out.mono ?_); rintro r w1 ⟨rfl, hk⟩; have HK := Lib.hid hk; obtain ⟨f', d4⟩ : ∃ f', w1.cell? ⟨X, 2, none⟩ = some (fnv f' X) := (by rcases HQ.out w1 hk with ⟨h, _⟩ | ⟨_, h⟩; cases h; exact h); clear hk)
      | fail)
    go_ret
    exact ⟨rfl, HK.out⟩
  · have HNN := Lib.hid HN; have HQ := Lib.hid hQ; clear HN hQ
    go_enter Tryz.func128, Tryz.ntmps128
    go_wp2_with (first
      | ((with_reducible refine HNN.out.mono ?_); rintro r w1 ⟨rfl, hk⟩; have HK := Lib.hid hk; have d4 : w1.cell? ⟨X, 2, none⟩ = some .nilFunc := (by rcases HQ.out w1 hk with ⟨_, h⟩ | ⟨h, _⟩; exact h; cases h); clear hk)
      | fail)
    go_ret
    exact ⟨rfl, HK.out⟩
set_option maxHeartbeats 1000000 in
theorem astep_off (w : World) (X : Nat) (v : Value) (c2 : w.cell? ⟨X, 2, none⟩ = some .nilFunc) :
    Calls Tryz.prog 128 #[ptr X, v] w fun e w' => e = .returned (.bool true) ∧ w = w' := by
  go_enter Tryz.func128, Tryz.ntmps128
  go_wp2
  go_ret
  exact ⟨rfl, rfl⟩
end Go.Proofs.YtpocihddecemfaaGreat

namespace Go.Proofs.YtpocihddecemfaaGreat
open Go.RowKit
set_option linter.unusedVariables false
open Lay (plcc plc shOf packN nodesN OkC Cfg Norm firstV Rep lenL)
theorem top_is {c : Cfg} (hc : OkC c) {i : Int} (h0 : 0 ≤ i) (h1 : i < c.mr) : plcc c 8 i 0 = Lay.at3 c + i * (2 + c.dq) := by
  rw [← Lay.plc_top hc i, Lay.wordL, if_pos (by omega)]; simp
theorem dq_rng {c : Cfg} (hc : OkC c) : 1 ≤ c.dq ∧ c.dq ≤ 8 ∧ 1 ≤ c.mr := by
  obtain ⟨a0, a1, b0, b1, c0, c1, d0, d1, e0, e1, s0, k0, k1, u0, u1, q0, q1, h0, h1, f0, f1, r0, r1, w0, w1⟩ := hc
  exact ⟨by omega, by omega, by omega⟩
theorem mk_pos {c : Cfg} (hc : OkC c) {i : Int} (h0 : 0 ≤ i) : 0 ≤ Lay.at3 c + i * (2 + c.dq) := by
  have := (Lay.bds hc).t3
  have := dq_rng hc
  have := Int.mul_nonneg h0 (by omega : 0 ≤ 2 + c.dq)
  omega
theorem n10 (i j : Int) : Norm ⟨10, i, j⟩ := nrm 10 i j (by omega) (by omega) (fun h => by omega) (fun h _ _ => absurd rfl h)
theorem eok_of {c : Cfg} (hc : OkC c) (i : Int) : Dg.EnOk (eOf c i) := by
  have hd := dq_rng hc
  have h1 := Lay.plc_lo (shOf c) ⟨10, i, 0⟩
  have h2 := (Lay.bds hc).t55'
  have h3 := Lay.lenL_eq hc
  refine ⟨?_, ?_, ?_⟩
  · show -1000000000 ≤ plcc c 10 i 0
    have : plcc c 10 i 0 = plc (shOf c) ⟨10, i, 0⟩ := rfl
    omega
  · show plcc c 10 i 0 ≤ 1000000000
    by_cases h : 0 ≤ plcc c 10 i 0
    · have ll : plcc c 10 i 0 < lenL (shOf c) := Lay.plc_lt (s := shOf c) (n10 i 0) h
      omega
    · omega
  · show c.dq ≤ 1000000000; omega
end Go.Proofs.YtpocihddecemfaaGreat

namespace Go.Proofs.YtpocihddecemfaaGreat
open Go.RowKit
set_option linter.unusedVariables false
set_option linter.unusedSimpArgs false
set_option maxRecDepth 100000
open Lay (plcc plc shOf packN nodesN OkC Cfg Norm firstV Rep lenL things)
def RAm (Q : Nat → Prop) (w : World) (m : Am) (v : Value) : Prop :=
  ∃ (d0 d1 d2 d3 d4 d5 d6 d7 d8 d10 : Int) (d9 : Bool) (p0 p1 p3 p4 p5 p6 p7 p9 p10 p11 p12 : Int) (T : Option Addr) (tn tc : Nat) (LA : Option Addr) (ln lc : Nat),
    v = .agg #[.int .i64 m.pc, .int .u64 m.task, .int .i64 d0, .int .i64 d1, .int .i64 d2, .int .i64 d3, .int .i64 d4, .int .i64 d5, .int .u64 d6, .int .u64 d7, .int .u64 d8, .bool d9, .int .i64 d10, .int .i64 p0, .int .i64 p1, .slice T tn tc, .int .i64 p3, .int .i64 p4, .int .i64 p5, .int .i64 p6, .int .i64 p7, .slice LA ln lc, .int .u32 p9, .int .u64 p10, .int .u32 p11, .int .i64 p12, .bool m.sp] ∧ (m.pc = 1 → Dg.rdOf m.d = .agg #[.int .i64 d0, .int .i64 d1, .int .i64 d2, .int .i64 d3, .int .i64 d4, .int .i64 d5, .int .u64 d6, .int .u64 d7, .int .u64 d8, .bool d9, .int .i64 d10]) ∧ (m.pc = 2 → RPm Q w m.p (.agg #[.int .i64 p0, .int .i64 p1, .slice T tn tc, .int .i64 p3, .int .i64 p4, .int .i64 p5, .int .i64 p6, .int .i64 p7, .slice LA ln lc, .int .u32 p9, .int .u64 p10, .int .u32 p11, .int .i64 p12]))
theorem rastep_any {c : Cfg} (hc : OkC c) {t : Int} (Q : Nat → Prop) (A : Option Addr) (n cap : Nat) (R : Option Addr) (n' capR : Nat) (L : List Int) (m : Am) (v : Value) (w : World)
    (hA : IsA w c A n) (hn : n' = L.length) (hn2 : n' ≤ 1000000) (hR : ReadsW Q w R L) (hQ : ∀ b, w.heap.size ≤ b → Q b) (hv : RAm Q w m v) (wm : AW c t m) (ww : WW L) (ht : t ≤ 900000000) :
    Calls Tryz.prog 51 #[aVal A n cap (packN c), .slice R n' capR, v] w (SomeA Q w n' (astp (gOf c) L m).1 (fun w' v => RAm Q w' (astp (gOf c) L m).2 v)) := by
  obtain ⟨d0, d1, d2, d3, d4, d5, d6, d7, d8, d10, d9, p0, p1, p3, p4, p5, p6, p7, p9, p10, p11, p12, T, tn, tc, LA, ln, lc, rfl, hd, hp⟩ := hv
  obtain ⟨pc, tk, d, p, sp⟩ := m
  have far : ∀ w1 : World, w.heap.size + 2 < w1.heap.size → ∀ b, w1.heap.size ≤ b → NotT Q w.heap.size b := fun w1 h b hb => ⟨hQ b (by omega), by omega, by omega⟩
  have h2 : pc ≤ 2 := wm.pc
  have hcase : pc = 0 ∨ pc = 1 ∨ pc = 2 := by omega
  rcases hcase with rfl | rfl | rfl
  · have e : astp (gOf c) L ⟨0, tk, d, p, sp⟩ = (L, ⟨0, tk, d, p, sp⟩) := by simp [astp]
    rw [e]
    refine (ras_0 Q A n cap (packN c) R n' capR L tk _ _ _ _ _ _ _ _ _ _ _ _ _ _ _ _ _ _ _ _ _ _ _ _ _ _ _ _ sp w hR).mono ?_
    rintro r w' ⟨R2, c2, v, rfl, g1, rfl, g2⟩
    exact ⟨R2, c2, _, rfl, g1, ⟨d0, d1, d2, d3, d4, d5, d6, d7, d8, d10, d9, p0, p1, p3, p4, p5, p6, p7, p9, p10, p11, p12, T, tn, tc, LA, ln, lc, rfl, (fun k => by simp at k), (fun k => by simp at k)⟩, g2⟩
  · have dw := wm.d rfl
    have ed := hd rfl
    dsimp only at dw ed
    obtain ⟨L', y, hy⟩ : ∃ L' y, Dg.stp L d = (L', y) := ⟨_, _, rfl⟩
    have HC : ∀ w1, w.heap.size + 2 < w1.heap.size → ReadsW (NotT Q w.heap.size) w1 R L → Calls Tryz.prog 87 #[.slice R n' capR, .agg #[.int .i64 d0, .int .i64 d1, .int .i64 d2, .int .i64 d3, .int .i64 d4, .int .i64 d5, .int .u64 d6, .int .u64 d7, .int .u64 d8, .bool d9, .int .i64 d10]] w1 (Dg.SomeV (NotT Q w.heap.size) w1 n' L' (Dg.rdOf y)) := fun w1 g1 g2 => by
      have h := Dg.rdstep_any (NotT Q w.heap.size) R n' capR L d w1 hn hn2 g2 (far w1 g1) dw.kd dw.pc dw.ok dw.b.1
      rw [hy, ed] at h; exact h
    by_cases hp0 : y.pc = 0
    · by_cases ho : y.out = 2
      · have e : astp (gOf c) L ⟨1, tk, d, p, sp⟩ = (L', ⟨2, tk, y, pPut (gOf c) [tk], true⟩) := by simp [astp, hy, hp0, ho]
        have er : Dg.rdOf y = Dg.rdV 1 0 0 0 0 0 0 0 y.w false 2 := by simp [Dg.rdOf, hp0, ho]
        rw [er] at HC
        rw [e]
        refine (ras_d_full hc Q A n cap R n' capR L L' tk _ _ _ _ _ _ _ _ _ _ _ _ _ _ _ _ _ _ _ _ _ _ _ _ _ _ _ _ sp 1 0 0 0 0 0 0 y.w false w hR hA hQ _ rfl HC).mono ?_
        rintro r w' ⟨R2, c2, v, rfl, g1, ⟨T2, tn2, tc2, LB, lm, ld, rfl, g3⟩, g2⟩
        exact ⟨R2, c2, _, rfl, g1, ⟨_, _, _, _, _, _, _, _, _, _, _, _, _, _, _, _, _, _, _, _, _, _, T2, tn2, tc2, LB, lm, ld, rfl, (fun k => by simp at k), (fun _ => g3)⟩, g2⟩
      · have e : astp (gOf c) L ⟨1, tk, d, p, sp⟩ = (L', ⟨0, tk, y, p, sp⟩) := by simp [astp, hy, hp0, ho]
        have er : Dg.rdOf y = Dg.rdV 1 0 0 0 0 0 0 0 y.w false y.out := by simp [Dg.rdOf, hp0]
        rw [er] at HC
        rw [e]
        refine (ras_d_done Q A n cap (packN c) R n' capR L L' tk y.out _ _ _ _ _ _ _ _ _ _ _ _ _ _ _ _ _ _ _ _ _ _ _ _ _ _ _ _ sp 1 0 0 0 0 0 0 y.w false w hR (by simpa using ho) HC).mono ?_
        rintro r w' ⟨R2, c2, v, rfl, g1, rfl, g2⟩
        exact ⟨R2, c2, _, rfl, g1, ⟨_, _, _, _, _, _, _, _, _, _, _, _, _, _, _, _, _, _, _, _, _, _, T, tn, tc, LA, ln, lc, rfl, (fun k => by simp at k), (fun k => by simp at k)⟩, g2⟩
    · have e : astp (gOf c) L ⟨1, tk, d, p, sp⟩ = (L', ⟨1, tk, y, p, sp⟩) := by simp [astp, hy, hp0]
      have er : Dg.rdOf y = Dg.rdV 1 y.pc y.e.top y.e.bot y.e.ent y.e.room y.b y.t y.w y.won y.out := by simp [Dg.rdOf, hp0]
      rw [er] at HC
      rw [e]
      refine (ras_d_on Q A n cap (packN c) R n' capR L L' tk y.pc y.out _ _ _ _ _ _ _ _ _ _ _ _ _ _ _ _ _ _ _ _ _ _ _ _ _ _ _ _ sp 1 y.e.top y.e.bot y.e.ent y.e.room y.b y.t y.w y.won w hR (by simpa using hp0) HC).mono ?_
      rintro r w' ⟨R2, c2, v, rfl, g1, rfl, g2⟩
      exact ⟨R2, c2, _, rfl, g1, ⟨_, _, _, _, _, _, _, _, _, _, _, _, _, _, _, _, _, _, _, _, _, _, T, tn, tc, LA, ln, lc, rfl, (fun _ => er), (fun k => by simp at k)⟩, g2⟩
  · have pw := wm.p rfl
    have ep := hp rfl
    dsimp only at pw ep
    obtain ⟨L', y, hy⟩ : ∃ L' y, pstp (gOf c) L p = (L', y) := ⟨_, _, rfl⟩
    have HC : ∀ w1, Below w.heap.size w w1 → w.heap.size + 2 < w1.heap.size → ReadsW (NotT Q w.heap.size) w1 R L → Calls Tryz.prog 89 #[aVal A n cap (packN c), .slice R n' capR, .agg #[.int .i64 p0, .int .i64 p1, .slice T tn tc, .int .i64 p3, .int .i64 p4, .int .i64 p5, .int .i64 p6, .int .i64 p7, .slice LA ln lc, .int .u32 p9, .int .u64 p10, .int .u32 p11, .int .i64 p12]] w1 (SomePs (NotT Q w.heap.size) w1 n' L' y) := fun w1 g0 g1 g2 => by
      have h := rpstep_any hc (NotT Q w.heap.size) A n cap R n' capR L p _ w1 (hA.below g0) hn hn2 g2 (far w1 g1) (ep.far g0) pw ww ht
      rw [hy] at h; exact h
    by_cases hp0 : y.pc = 0
    · have e : astp (gOf c) L ⟨2, tk, d, p, sp⟩ = (L', ⟨0, tk, d, y, sp⟩) := by simp [astp, hy, hp0]
      rw [e]
      refine (ras_p_done Q A n cap (packN c) R n' capR L L' tk d0 d1 d2 d3 d4 d5 d6 d7 d8 d10 d9 p0 p1 p3 p4 p5 p6 p7 p9 p10 p11 p12 T tn tc LA ln lc sp y w hR (by simpa using hp0) HC).mono ?_
      rintro r w' ⟨R2, c2, v, rfl, g1, ⟨T2, tn2, tc2, LB, lm, ld, rfl, g3⟩, g2⟩
      exact ⟨R2, c2, _, rfl, g1, ⟨d0, d1, d2, d3, d4, d5, d6, d7, d8, d10, d9, _, _, _, _, _, _, _, _, _, _, _, T2, tn2, tc2, LB, lm, ld, rfl, (fun k => by simp at k), (fun k => by simp at k)⟩, g2⟩
    · have e : astp (gOf c) L ⟨2, tk, d, p, sp⟩ = (L', ⟨2, tk, d, y, sp⟩) := by simp [astp, hy, hp0]
      rw [e]
      refine (ras_p_on Q A n cap (packN c) R n' capR L L' tk d0 d1 d2 d3 d4 d5 d6 d7 d8 d10 d9 p0 p1 p3 p4 p5 p6 p7 p9 p10 p11 p12 T tn tc LA ln lc sp y w hR (by simpa using hp0) HC).mono ?_
      rintro r w' ⟨R2, c2, v, rfl, g1, ⟨T2, tn2, tc2, LB, lm, ld, rfl, g3⟩, g2⟩
      exact ⟨R2, c2, _, rfl, g1, ⟨d0, d1, d2, d3, d4, d5, d6, d7, d8, d10, d9, _, _, _, _, _, _, _, _, _, _, _, T2, tn2, tc2, LB, lm, ld, rfl, (fun k => by simp at k), (fun _ => g3)⟩, g2⟩
end Go.Proofs.YtpocihddecemfaaGreat
