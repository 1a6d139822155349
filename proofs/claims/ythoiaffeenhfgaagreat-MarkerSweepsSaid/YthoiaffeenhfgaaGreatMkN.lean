
import Derived.Test.YthoiaffeenhfgaaGreatJ20
import Derived.Test.YthoiaffeenhfgaaGreatJ22
import Derived.Test.YthoiaffeenhfgaaGreatJ25
import Derived.Test.YthoiaffeenhfgaaGreatJ23
namespace Go.Proofs.YthoiaffeenhfgaaGreat
open Go.RowKit
set_option linter.unusedVariables false
set_option linter.unusedSimpArgs false
set_option maxRecDepth 100000
open Lay (plcc plc nodesN OkC Cfg kindV)
structure Ms (w0 w : World) (X S D N : Nat) (c : Cfg) (z : Mz) (L : List Int) (cc : Int) : Prop where
  mem : Mb w X (some ⟨N, 0, none⟩) z
  st : St w S D L cc
  mp : Lay.IsMap w N c
  ok : OkC c
  n : X ≠ S ∧ X ≠ D ∧ N ≠ X ∧ N ≠ S ∧ N ≠ D
  u : UF (fun b => b = X ∨ b = S ∨ b = D) w0 w
section
variable {w0 w w' : World} {X S D N Y M : Nat} {c : Cfg} {z : Mz} {L : List Int} {cc : Int}
theorem Ms.step (h : Ms w0 w X S D N c z L cc) (kb : Below w.heap.size w w') : Ms w0 w' X S D N c z L cc :=
  ⟨h.mem.step kb, h.st.below kb, h.mp.below kb, h.ok, h.n, h.u.trans (.of_below (F := fun _ => False) kb) (fun _ x => x) (fun _ _ x => x.elim)⟩
theorem Ms.drew (h : Ms w0 w X S D N c z L cc) : Ms w0 w.drew X S D N c z L cc := h.step (Below.refl _ _).drew
theorem Ms.left (h : Ms w0 w X S D N c z L cc) {L' : List Int} {c' : Int} (kb : Left S D L' c' w w') : Ms w0 w' X S D N c z L' c' :=
  ⟨h.mem.same (kb.2.block X h.mem.lt h.n.1 h.n.2.1), kb.1, IsMap_same h.mp kb.2.size (kb.2.block N h.mp.1 h.n.2.2.2.1 h.n.2.2.2.2), h.ok, h.n, h.u.trans (.of_upd kb.2) (fun _ x => x) (fun _ _ x => .inr x)⟩
theorem Ms.uf (h : Ms w0 w X S D N c z L cc) {z' : Mz} (hz : Mb w' X (some ⟨N, 0, none⟩) z') (u : UF (fun b => b = X) w w') : Ms w0 w' X S D N c z' L cc :=
  ⟨hz, St_same h.st (u.block S h.st.ltS (Ne.symm h.n.1)) (u.block D h.st.row.lt (Ne.symm h.n.2.1)), IsMap_same h.mp u.size (u.block N h.mp.1 h.n.2.2.1), h.ok, h.n, h.u.trans u (fun _ x => x) (fun _ _ e => .inl e)⟩
theorem Ms.put (h : Ms w0 w X S D N c z L cc) (j : Nat) (y : Value) {z' : Mz} (hh : (Mrow (some ⟨N, 0, none⟩) z).setIfInBounds j y = Mrow (some ⟨N, 0, none⟩) z') : Ms w0 (w.setCell ⟨X, j, none⟩ y) X S D N c z' L cc :=
  h.uf (h.mem.put j y hh) (UF.set w X j y)
theorem Ms.p2 (h : Ms w0 w X S D N c z L cc) (y : Int) : Ms w0 (w.setCell ⟨X, 2, none⟩ (.int .i64 y)) X S D N c { z with dg := y } L cc := h.put 2 _ rfl
theorem Ms.p3 (h : Ms w0 w X S D N c z L cc) (y : Value) : Ms w0 (w.setCell ⟨X, 3, none⟩ y) X S D N c { z with nx := y } L cc := h.put 3 _ rfl
theorem Ms.p4 (h : Ms w0 w X S D N c z L cc) (y : Value) : Ms w0 (w.setCell ⟨X, 4, none⟩ y) X S D N c { z with ot := y } L cc := h.put 4 _ rfl
theorem Ms.p5 (h : Ms w0 w X S D N c z L cc) (y : Value) : Ms w0 (w.setCell ⟨X, 5, none⟩ y) X S D N c { z with th := y } L cc := h.put 5 _ rfl
theorem Ms.p6 (h : Ms w0 w X S D N c z L cc) (y : Option Addr) : Ms w0 (w.setCell ⟨X, 6, none⟩ (.pointer y)) X S D N c { z with sk := y } L cc := h.put 6 _ rfl
theorem Ms.p7 (h : Ms w0 w X S D N c z L cc) (y : Int) : Ms w0 (w.setCell ⟨X, 7, none⟩ (.int .u64 y)) X S D N c { z with tk := y } L cc := h.put 7 _ rfl
theorem Ms.p8 (h : Ms w0 w X S D N c z L cc) (y : Bool) : Ms w0 (w.setCell ⟨X, 8, none⟩ (.bool y)) X S D N c { z with hs := y } L cc := h.put 8 _ rfl
theorem Ms.pev (h : Ms w0 w X S D N c z L cc) (k a b : Int) : Ms w0 (evK w X k a b) X S D N c { z with ek := k, ea := a, eb := b } L cc := h.uf (h.mem.pev k a b) (UF.evK w X k a b)
theorem Ms.pbg (h : Ms w0 w X S D N c z L cc) (a b d : Int) : Ms w0 (bgK w X a b d) X S D N c { z with b0 := a, b1 := b, b2 := d } L cc := h.uf (h.mem.pbg a b d) (UF.bgK w X a b d)
theorem Ms.cl (h : Ms w0 w X S D N c z L cc) : w.cell? ⟨X, 0, none⟩ = some (.pointer (some ⟨N, 0, none⟩)) ∧ w.cell? ⟨X, 1, none⟩ = some (.int .i64 z.i) ∧ (w.cell? ⟨X, 9, none⟩ = some (.int .i64 z.b0) ∧ w.cell? ⟨X, 10, none⟩ = some (.int .i64 z.b1)) ∧ w.cell? ⟨X, 11, none⟩ = some (.int .i64 z.b2) := ⟨h.mem.c0, h.mem.c1, h.mem.bag⟩
theorem Ms.cw (h : Ms w0 w X S D N c z L cc) : w.cell? ⟨X, 0, none⟩ = some (.pointer (some ⟨N, 0, none⟩)) ∧ w.cell? ⟨X, 1, none⟩ = some (.int .i64 z.i) ∧ w.cell? ⟨X, 7, none⟩ = some (.int .u64 z.tk) := ⟨h.mem.c0, h.mem.c1, h.mem.c7⟩
theorem Ms.self (h : Ms w0 w X S D N c z L cc) : Ms w w X S D N c z L cc := ⟨h.mem, h.st, h.mp, h.ok, h.n, .refl _ _⟩
theorem Ms.join {z' : Mz} {L' : List Int} {c' : Int} (h : Ms w0 w X S D N c z L cc) (k : Ms w w' X S D N c z' L' c') : Ms w0 w' X S D N c z' L' c' := ⟨k.mem, k.st, k.mp, k.ok, k.n, h.u.trans k.u (fun _ x => x) (fun _ _ x => x)⟩
theorem Ms.far (k : Ms w w' X S D N c z L cc) {B : Nat} (hB : B < w.heap.size) (n1 : B ≠ X) (n2 : B ≠ S) (n3 : B ≠ D) : w'.heap[B]? = w.heap[B]? := k.u.block B hB (fun e => by rcases e with e | e | e; exact n1 e; exact n2 e; exact n3 e)
theorem Ms.lts (h : Ms w0 w X S D N c z L cc) : X < w.heap.size ∧ S < w.heap.size ∧ D < w.heap.size ∧ N < w.heap.size := ⟨h.mem.lt, h.st.ltS, h.st.row.lt, h.mp.1⟩
set_option maxHeartbeats 1000000 in
theorem doesM (h : Ms w0 w X S D N c z L cc) (d : Int) (f : Nat) : Calls Tryz.prog 78 #[ptr X, .int .i64 d, fnv f X] w fun e w' => e = .returned (.tuple #[]) ∧ Ms w0 w' X S D N c { z with dg := d, nx := fnv f X } L cc := by
  have q2 := h.mem.c2; have f2 := h.mem.f 2
  have H2 := Lib.hid (h.p2 d)
  have q3 := H2.out.mem.c3; have f3 := H2.out.mem.f 3
  have H3 := Lib.hid (H2.out.p3 (fnv f X))
  clear h
  go_enter Tryz.func78, Tryz.ntmps78
  go_wp2
  go_returns
  exact ⟨rfl, H3.out⟩
set_option maxHeartbeats 1000000 in
theorem doesAllM (h : Ms w0 w X S D N c z L cc) (d : Int) (T Y g : Nat) : Calls Tryz.prog 98 #[ptr X, .int .i64 d, .iface T (ptr Y), fnv g X] w fun e w' => e = .returned (.tuple #[]) ∧ Ms w0 w' X S D N c { z with ot := .iface T (ptr Y), th := fnv g X, dg := d, nx := fnv 110 X } L cc := by
  have hmf : ∀ (fn : Fn) (first cap : Array Value) (w : World), (Instr.makeFunc fn first cap).run Tryz.prog w = .ok (.func fn first cap) w := fun _ _ _ _ => rfl
  have q4 := h.mem.c4; have f4 := h.mem.f 4
  have H2 := Lib.hid (h.p4 (.iface T (ptr Y)))
  have q5 := H2.out.mem.c5; have f5 := H2.out.mem.f 5
  have H3 := Lib.hid (H2.out.p5 (fnv g X))
  clear h
  go_enter Tryz.func98, Tryz.ntmps98
  go_wp2_with (first
    | (go_at_call 78; (with_reducible refine (doesM H3.out d 110).mono ?_); rintro r w1 ⟨rfl, hk⟩; have H4 := Lib.hid hk; clear hk)
    | fail)
  go_returns
  exact ⟨rfl, H4.out⟩
set_option maxHeartbeats 1000000 in
theorem doesAllK (h : Ms w0 w X S D N c z L cc) (d : Int) (T Y g : Nat) : Calls Tryz.prog 98 #[ptr X, .int .i64 d, .iface 89 (.agg #[ptr Y]), fnv g X] w fun e w' => e = .returned (.tuple #[]) ∧ Ms w0 w' X S D N c { z with ot := .iface 89 (.agg #[ptr Y]), th := fnv g X, dg := d, nx := fnv 110 X } L cc := by
  have hmf : ∀ (fn : Fn) (first cap : Array Value) (w : World), (Instr.makeFunc fn first cap).run Tryz.prog w = .ok (.func fn first cap) w := fun _ _ _ _ => rfl
  have q4 := h.mem.c4; have f4 := h.mem.f 4
  have H2 := Lib.hid (h.p4 (.iface 89 (.agg #[ptr Y])))
  have q5 := H2.out.mem.c5; have f5 := H2.out.mem.f 5
  have H3 := Lib.hid (H2.out.p5 (fnv g X))
  clear h
  go_enter Tryz.func98, Tryz.ntmps98
  go_wp2_with (first
    | (go_at_call 78; (with_reducible refine (doesM H3.out d 110).mono ?_); rintro r w1 ⟨rfl, hk⟩; have H4 := Lib.hid hk; clear hk)
    | fail)
  go_returns
  exact ⟨rfl, H4.out⟩
set_option maxHeartbeats 1000000 in
theorem lookAnewM (h : Ms w0 w X S D N c z L cc) : Calls Tryz.prog 56 #[ptr X] w fun e w' => e = .returned (.tuple #[]) ∧ Ms w0 w' X S D N c { z with tk := 0, hs := false, dg := 0, nx := fnv 79 X } L cc := by
  have hmf : ∀ (fn : Fn) (first cap : Array Value) (w : World), (Instr.makeFunc fn first cap).run Tryz.prog w = .ok (.func fn first cap) w := fun _ _ _ _ => rfl
  have q7 := h.mem.c7; have f7 := h.mem.f 7
  have H2 := Lib.hid (h.p7 0)
  have q8 := H2.out.mem.c8; have f8 := H2.out.mem.f 8
  have H3 := Lib.hid (H2.out.p8 false)
  clear h
  go_enter Tryz.func56, Tryz.ntmps56
  go_wp2_with (first
    | (go_at_call 78; (with_reducible refine (doesM H3.out 0 79).mono ?_); rintro r w1 ⟨rfl, hk⟩; have H4 := Lib.hid hk; clear hk)
    | fail)
  go_returns
  exact ⟨rfl, H4.out⟩
theorem phase0 (c : Cfg) : plcc c 0 0 0 = 0 := Lay.single_pos c 0 (by omega) (by omega)
set_option maxHeartbeats 1000000 in
theorem phaseM (h : Ms w0 w X S D N c z L cc) (ww : WW L) (h0 : 0 ≤ cc) (h1 : cc ≤ 1000000000) : Calls Tryz.prog 95 #[ptr X, ptr S] w fun e w' => e = .returned (.tuple #[.int .u64 (ldq L 0 / 8), .int .i64 (ldq L 0 % 8)]) ∧ Ms w0 w' X S D N c z L (cc + 1) ∧ w.heap.size ≤ w'.heap.size := by
  have H := Lib.hid h
  have q0 := h.mem.c0
  have HW := Lib.hid (ww.ldq 0)
  have HV : Hid (ldv L 0 = ldq L 0) := Lib.hid (ldv_eq L 0)
  clear h ww
  go_enter Tryz.func95, Tryz.ntmps95
  go_wp2_with (first
    | (go_at_call 37; (with_reducible refine (Lay.phase_m H.out.ok N _ H.out.mp).mono ?_); rintro r w1 ⟨rfl, hb⟩; rw [phase0]; have H1 := Lib.hid (H.out.step hb); have HS1 := Lib.hid hb.size; clear hb)
    | (go_at_call 25; (with_reducible refine (load_any _ _ H1.out.st h0 h1).mono ?_); rintro r w2 ⟨rfl, hk⟩; rw [HV.out]; have H2 := Lib.hid (H1.out.left hk); have HS2 := Lib.hid (Nat.le_trans HS1.out hk.2.size); clear hk)
    | (go_at_call 61; (with_reducible refine (cycle_any _ HW.out.1 HW.out.2 _).mono ?_); rintro r w3 ⟨rfl, hb⟩; have H3 := Lib.hid (H2.out.step hb); have HS3 := Lib.hid (Nat.le_trans HS2.out hb.size); clear hb)
    | fail)
  go_ret2
  exact ⟨rfl, H3.out, HS3.out⟩
set_option maxHeartbeats 1000000 in
theorem marks_yes (p : Int) (hp : p = 3 ∨ p = 4) (w : World) : Calls Tryz.prog 96 #[.int .i64 p] w fun e w' => e = .returned (.bool true) ∧ w = w' := by
  rcases hp with rfl | rfl
  all_goals
    go_enter Tryz.func96, Tryz.ntmps96
    go_wp2
    go_ret
    exact ⟨rfl, rfl⟩
set_option maxHeartbeats 1000000 in
theorem marks_no (p : Int) (h3 : p ≠ 3) (h4 : p ≠ 4) (w : World) : Calls Tryz.prog 96 #[.int .i64 p] w fun e w' => e = .returned (.bool false) ∧ w = w' := by
  have d3 : (p == 3) = false := by simpa using h3
  have d4 : (p == 4) = false := by simpa using h4
  go_enter Tryz.func96, Tryz.ntmps96
  go_wp2
  go_ret
  exact ⟨rfl, rfl⟩
theorem doesAllS (h : Ms w0 w X S D N c z L cc) (Y : Nat) : Calls Tryz.prog 98 #[ptr X, .int .i64 1, .iface 89 (.agg #[ptr Y]), fnv 99 X] w fun e w' => e = .returned (.tuple #[]) ∧ Ms w0 w' X S D N c { z with ot := .iface 89 (.agg #[ptr Y]), th := fnv 99 X, dg := 1, nx := fnv 110 X } L cc := doesAllK h 1 0 Y 99
set_option maxHeartbeats 4000000 in
theorem look_seek (h : Ms w0 w X S D N c z L cc) (ww : WW L) (h0 : 0 ≤ cc) (h1 : cc ≤ 1000000000) (hp : ldq L 0 % 8 = 3 ∨ ldq L 0 % 8 = 4) (i0 : 0 ≤ z.i) (i1 : z.i < c.mr) (dr : Int) :
    Calls Tryz.prog 79 #[ptr X, ptr S, .int .i64 dr] w fun e w' => e = .returned (.tuple #[]) ∧ ∃ Y M, w.heap.size ≤ Y ∧ w.heap.size ≤ M ∧ M ≠ Y ∧ Kb w' Y N z.i dr z.b0 (kbd z.b1) (kbd z.b2) (fnv 109 Y) (ptr M) (.pointer none) 0 false ∧ Dg.MM w' M (Dg.mPop (eOf c z.i)) ∧
      Ms w0 w' X S D N c { z with sk := some ⟨Y, 0, none⟩, ot := .iface 89 (.agg #[ptr Y]), th := fnv 99 X, dg := 1, nx := fnv 110 X } L (cc + 1) := by
  have hmf : ∀ (fn : Fn) (first cap : Array Value) (w : World), (Instr.makeFunc fn first cap).run Tryz.prog w = .ok (.func fn first cap) w := fun _ _ _ _ => rfl
  have hmr : c.mr ≤ 4 := h.ok.k1
  have HI : Hid ((Lit.int .i64 z.i).wf = true) := Lib.hid (by simp [Lit.wf, IntKind.min, IntKind.max, IntKind.bits, IntKind.signed]; omega)
  have HTP := Lib.hid (top_pos h.ok i0 i1)
  have H := Lib.hid h; have HW := Lib.hid ww
  obtain ⟨p, hpp⟩ : ∃ p, p = ldq L 0 % 8 := ⟨_, rfl⟩
  obtain ⟨q, hq⟩ : ∃ q, q = ldq L 0 / 8 := ⟨_, rfl⟩
  rw [← hpp] at hp
  have HP := Lib.hid hp; have HPP := Lib.hid hpp; have HQQ := Lib.hid hq
  clear h hpp hp hq i0 i1 hmr
  go_enter Tryz.func79, Tryz.ntmps79
  go_wp2_with (first
    | (go_at_call 95; (with_reducible refine (phaseM H.out HW.out h0 h1).mono ?_); rintro r w1 ⟨rfl, hk, hs⟩; rw [← HPP.out, ← HQQ.out]; have H1 := Lib.hid hk; have HS1 := Lib.hid hs; clear hk hs)
    | (go_at_call 96; (with_reducible refine (marks_yes _ HP.out _).mono ?_); rintro r w2 ⟨rfl, rfl⟩; have HD := Lib.hid H1.out.drew; obtain ⟨q0, q1, ⟨q9, q10⟩, q11⟩ := H1.out.cl)
    | fail)
  go_region_held3 (fun w' => w'.cell? ⟨X, 0, none⟩ = some (.pointer (some ⟨N, 0, none⟩)) ∧ w'.cell? ⟨X, 1, none⟩ = some (.int .i64 z.i) ∧ (w'.cell? ⟨X, 9, none⟩ = some (.int .i64 z.b0) ∧ w'.cell? ⟨X, 10, none⟩ = some (.int .i64 z.b1)) ∧ w'.cell? ⟨X, 11, none⟩ = some (.int .i64 z.b2))
    (first | (with_reducible exact H4.out.cl) | (with_reducible exact H3.out.cl) | (with_reducible exact HD.out.cl) | fail)
    (first
      | (go_at_call 97; (with_reducible refine (newK_raw HD.out.ok N z.i dr ⟨z.b0, z.b1, z.b2⟩ HI.out _ HD.out.mp HTP.out).mono ?_); rintro r w3 ⟨Y, M, rfl, hY, hM, hne, hkb, hmm, hb⟩; have HKB := Lib.hid hkb; have HMM := Lib.hid hmm; have HNE := Lib.hid (And.intro (Nat.le_trans HS1.out hY) (And.intro (Nat.le_trans HS1.out hM) hne)); have HXL := Lib.hid H1.out.mem.lt; have HYM := Lib.hid (And.intro hY hM); have H3 := Lib.hid (HD.out.step hb); have q6 := H3.out.mem.c6; have f6 := H3.out.mem.f 6; have H4 := Lib.hid (H3.out.p6 (some ⟨Y, 0, none⟩)); clear hb hkb hmm hne hY hM)
      | fail)
  have H4s := Lib.hid H4.out.self
  have HL1 := Lib.hid H1.out.lts
  have r6 := H4.out.mem.c6
  go_wp2_with (first
    | (go_at_call 98; (with_reducible refine (doesAllS H4s.out Y).mono ?_); rintro r w5 ⟨rfl, hk⟩; have H5 := Lib.hid hk; clear hk)
    | fail)
  go_returns
  obtain ⟨l1, l2, l3, l4⟩ := HL1.out
  have hYM : w1.heap.size ≤ Y ∧ w1.heap.size ≤ M := HYM.out
  have hne := HNE.out
  have kY : (w3.setCell ⟨X, 6, none⟩ (ptr Y)).heap[Y]? = w3.heap[Y]? := heap_setCell_other w3 ⟨X, 6, none⟩ Y _ (show Y ≠ X by omega)
  have kM : (w3.setCell ⟨X, 6, none⟩ (ptr Y)).heap[M]? = w3.heap[M]? := heap_setCell_other w3 ⟨X, 6, none⟩ M _ (show M ≠ X by omega)
  have sz : (w3.setCell ⟨X, 6, none⟩ (ptr Y)).heap.size = w3.heap.size := by simp
  have fY := H5.out.far (B := Y) (by rw [sz]; exact HKB.out.lt) (by omega) (by omega) (by omega)
  have fM := H5.out.far (B := M) (by rw [sz]; exact HMM.out.lt) (by omega) (by omega) (by omega)
  exact ⟨rfl, Y, M, hne.1, hne.2.1, hne.2.2, HKB.out.same (fY.trans kY), dmm_same HMM.out (fM.trans kM), H4.out.join H5.out⟩
set_option maxHeartbeats 4000000 in
theorem look_sweep (h : Ms w0 w X S D N c z L cc) (ww : WW L) (h0 : 0 ≤ cc) (h1 : cc ≤ 1000000000) (hp : ldq L 0 % 8 = 5) (dr : Int) :
    Calls Tryz.prog 79 #[ptr X, ptr S, .int .i64 dr] w fun e w' => e = .returned (.tuple #[]) ∧ ∃ Y, w.heap.size ≤ Y ∧ Sb w' Y (some ⟨N, 0, none⟩) (sc0 (ldq L 0 / 8) (fns 114 Y)) ∧
      Ms w0 w' X S D N c { z with ot := .iface 129 (ptr Y), th := fnv 56 X, dg := 4, nx := fnv 110 X } L (cc + 1) := by
  have hmf : ∀ (fn : Fn) (first cap : Array Value) (w : World), (Instr.makeFunc fn first cap).run Tryz.prog w = .ok (.func fn first cap) w := fun _ _ _ _ => rfl
  have H := Lib.hid h; have HW := Lib.hid ww
  obtain ⟨q, hq⟩ : ∃ q, q = ldq L 0 / 8 := ⟨_, rfl⟩
  rw [← hq]
  have HPP := Lib.hid hp; have HQQ := Lib.hid hq
  clear h hp hq
  go_enter Tryz.func79, Tryz.ntmps79
  go_wp2_with (first
    | (go_at_call 95; (with_reducible refine (phaseM H.out HW.out h0 h1).mono ?_); rintro r w1 ⟨rfl, hk, hs⟩; rw [HPP.out, ← HQQ.out]; have H1 := Lib.hid hk; have HS1 := Lib.hid hs; clear hk hs)
    | (go_at_call 96; (with_reducible refine (marks_no _ (by decide) (by decide) _).mono ?_); rintro r w2 ⟨rfl, rfl⟩; have q0 := H1.out.mem.c0)
    | (go_at_call 100; (with_reducible refine (newS_map N q _).mono ?_); rintro r w3 ⟨Y, rfl, hY, hsb, hb⟩; have HSB := Lib.hid hsb; have HY := Lib.hid hY; have H3 := Lib.hid (H1.out.step hb); have H3s := Lib.hid H3.out.self; clear hsb hY hb)
    | (go_at_call 98; (with_reducible refine (doesAllM H3s.out 4 129 Y 56).mono ?_); rintro r w5 ⟨rfl, hk⟩; have H5 := Lib.hid hk; clear hk)
    | fail)
  go_returns
  obtain ⟨l1, l2, l3, l4⟩ := H1.out.lts
  have hY := HY.out
  have hs := HS1.out
  have fY := H5.out.far (B := Y) HSB.out.lt (by omega) (by omega) (by omega)
  exact ⟨rfl, Y, by omega, HSB.out.same fY, H3.out.join H5.out⟩
set_option maxHeartbeats 4000000 in
theorem look_none (h : Ms w0 w X S D N c z L cc) (ww : WW L) (h0 : 0 ≤ cc) (h1 : cc ≤ 1000000000) (h3 : ldq L 0 % 8 ≠ 3) (h4 : ldq L 0 % 8 ≠ 4) (h5 : ldq L 0 % 8 ≠ 5) (dr : Int) :
    Calls Tryz.prog 79 #[ptr X, ptr S, .int .i64 dr] w fun e w' => e = .returned (.tuple #[]) ∧ Ms w0 w' X S D N c z L (cc + 1) := by
  have H := Lib.hid h; have HW := Lib.hid ww
  obtain ⟨p, hpp⟩ : ∃ p, p = ldq L 0 % 8 := ⟨_, rfl⟩
  obtain ⟨q, hq⟩ : ∃ q, q = ldq L 0 / 8 := ⟨_, rfl⟩
  rw [← hpp] at h3 h4 h5
  have d5 : (p == 5) = false := by simpa using h5
  have HP := Lib.hid (And.intro h3 h4); have HPP := Lib.hid hpp; have HQQ := Lib.hid hq
  clear h h3 h4 h5 hpp hq
  go_enter Tryz.func79, Tryz.ntmps79
  go_wp2_with (first
    | (go_at_call 95; (with_reducible refine (phaseM H.out HW.out h0 h1).mono ?_); rintro r w1 ⟨rfl, hk, hs⟩; rw [← HPP.out, ← HQQ.out]; have H1 := Lib.hid hk; clear hk hs)
    | (go_at_call 96; (with_reducible refine (marks_no _ HP.out.1 HP.out.2 _).mono ?_); rintro r w2 ⟨rfl, rfl⟩)
    | fail)
  go_returns
  exact ⟨rfl, H1.out⟩
set_option maxHeartbeats 4000000 in
theorem wait_scan (h : Ms w0 w X S D N c z L cc) (ww : WW L) (h0 : 0 ≤ cc) (h1 : cc ≤ 1000000000) (hp : ldq L 0 % 8 = 3 ∨ ldq L 0 % 8 = 4) (t0 : 0 ≤ z.tk ∧ z.tk ≤ 18446744073709551615) (dr : Int) :
    Calls Tryz.prog 113 #[ptr X, ptr S, .int .i64 dr] w fun e w' => e = .returned (.tuple #[]) ∧ ∃ Y, w.heap.size ≤ Y ∧ Zb w' Y (some ⟨N, 0, none⟩) (zc0 z.i (z.tk / 4294967296) (z.tk % 4294967296) (ldq L 0 / 8) (fnz 142 Y)) ∧
      Ms w0 w' X S D N c { z with ot := .iface 148 (ptr Y), th := fnv 56 X, dg := 3, nx := fnv 110 X } L (cc + 1) := by
  have hmf : ∀ (fn : Fn) (first cap : Array Value) (w : World), (Instr.makeFunc fn first cap).run Tryz.prog w = .ok (.func fn first cap) w := fun _ _ _ _ => rfl
  have H := Lib.hid h; have HW := Lib.hid ww; have HT := Lib.hid t0
  obtain ⟨p, hpp⟩ : ∃ p, p = ldq L 0 % 8 := ⟨_, rfl⟩
  obtain ⟨q, hq⟩ : ∃ q, q = ldq L 0 / 8 := ⟨_, rfl⟩
  rw [← hpp] at hp
  rw [← hq]
  have HP := Lib.hid hp; have HPP := Lib.hid hpp; have HQQ := Lib.hid hq
  clear h hpp hp hq t0
  go_enter Tryz.func113, Tryz.ntmps113
  go_wp2_with (first
    | (go_at_call 95; (with_reducible refine (phaseM H.out HW.out h0 h1).mono ?_); rintro r w1 ⟨rfl, hk, hs⟩; rw [← HPP.out, ← HQQ.out]; have H1 := Lib.hid hk; have HS1 := Lib.hid hs; clear hk hs)
    | (go_at_call 96; (with_reducible refine (marks_yes _ HP.out _).mono ?_); rintro r w2 ⟨rfl, rfl⟩; have HD := Lib.hid H1.out.drew; obtain ⟨q0, q1, q7⟩ := H1.out.cw)
    | fail)
  go_region_held3 (fun w' => w'.cell? ⟨X, 0, none⟩ = some (.pointer (some ⟨N, 0, none⟩)) ∧ w'.cell? ⟨X, 1, none⟩ = some (.int .i64 z.i) ∧ w'.cell? ⟨X, 7, none⟩ = some (.int .u64 z.tk))
    (first | (with_reducible exact H3.out.cw) | (with_reducible exact H5.out.cw) | (with_reducible exact HD.out.cw) | fail)
    (first
      | (go_at_call 125; (with_reducible refine (newZ_map N z.i z.tk q HT.out.1 HT.out.2 _).mono ?_); rintro r w3 ⟨Y, rfl, hY, hzb, hb⟩; have HZB := Lib.hid hzb; have HY := Lib.hid hY; have H3 := Lib.hid (HD.out.step hb); have H3s := Lib.hid H3.out.self; clear hzb hY hb)
      | (go_at_call 98; (with_reducible refine (doesAllM H3s.out 3 148 Y 56).mono ?_); rintro r w5 ⟨rfl, hk⟩; have H5 := Lib.hid hk; clear hk)
      | fail)
  all_goals
    go_returns
    obtain ⟨l1, l2, l3, l4⟩ := H1.out.lts
    have hY : w1.heap.size ≤ Y := HY.out
    have hs := HS1.out
    have fY := H5.out.far (B := Y) HZB.out.lt (by omega) (by omega) (by omega)
    exact ⟨rfl, Y, by omega, HZB.out.same fY, H3.out.join H5.out⟩
set_option maxHeartbeats 4000000 in
theorem wait_none (h : Ms w0 w X S D N c z L cc) (ww : WW L) (h0 : 0 ≤ cc) (h1 : cc ≤ 1000000000) (h3 : ldq L 0 % 8 ≠ 3) (h4 : ldq L 0 % 8 ≠ 4) (dr : Int) :
    Calls Tryz.prog 113 #[ptr X, ptr S, .int .i64 dr] w fun e w' => e = .returned (.tuple #[]) ∧ Ms w0 w' X S D N c z L (cc + 1) := by
  have H := Lib.hid h; have HW := Lib.hid ww
  obtain ⟨p, hpp⟩ : ∃ p, p = ldq L 0 % 8 := ⟨_, rfl⟩
  obtain ⟨q, hq⟩ : ∃ q, q = ldq L 0 / 8 := ⟨_, rfl⟩
  rw [← hpp] at h3 h4
  have HP := Lib.hid (And.intro h3 h4); have HPP := Lib.hid hpp; have HQQ := Lib.hid hq
  clear h h3 h4 hpp hq
  go_enter Tryz.func113, Tryz.ntmps113
  go_wp2_with (first
    | (go_at_call 95; (with_reducible refine (phaseM H.out HW.out h0 h1).mono ?_); rintro r w1 ⟨rfl, hk, hs⟩; rw [← HPP.out, ← HQQ.out]; have H1 := Lib.hid hk; clear hk hs)
    | (go_at_call 96; (with_reducible refine (marks_no _ HP.out.1 HP.out.2 _).mono ?_); rintro r w2 ⟨rfl, rfl⟩)
    | fail)
  go_returns
  exact ⟨rfl, H1.out⟩
end
end Go.Proofs.YthoiaffeenhfgaaGreat
