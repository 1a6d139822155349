
import Derived.Test.YthoiaffeenhfgaaGreatMkN
namespace Go.Proofs.YthoiaffeenhfgaaGreat
open Go.RowKit
set_option linter.unusedVariables false
set_option linter.unusedSimpArgs false
set_option maxRecDepth 100000
open Lay (plcc plc nodesN OkC Cfg kindV)
section
variable {w0 w w' : World} {X S D N Y M : Nat} {c : Cfg} {z : Mz} {L : List Int} {cc : Int}
set_option maxHeartbeats 1000000 in
theorem seekerEv (v : Value) (w : World) : Calls Tryz.prog 232 #[.agg #[v]] w fun e w' => e = .returned (evV 0 0 0) ∧ Below w.heap.size w w' := by
  have HP0 := Lib.hid (PEz.new (w.alloc (.cells #[v] 89)))
  have HEQ : Hid ((w.alloc (.cells #[v] 89)).heap.size = w.heap.size + 1) := Lib.hid (by simp)
  go_enter Tryz.func232, Tryz.ntmps232
  go_wp2_with (first
    | (go_at_call 57; (with_reducible refine (noneM_any _).mono ?_); rintro r w1 ⟨rfl, hb⟩; have HP1 := Lib.hid (HP0.out.step hb); clear hb; obtain ⟨r0, r1, r2, r3, r4⟩ := HP1.out.res; have hfr := HP1.out.fro; rw [HEQ.out] at r0 r1 r2 r3 r4 hfr)
    | fail)
  have hb5 := HP1.out.bel5 (v0 := .int .i64 0) (v1 := .int .i64 0) (v2 := .int .i64 0) (v3 := .int .i64 0) (v4 := .int .i64 0)
  have hb6 := below_step (below_alloc0 (Below.refl w.heap.size w) (.cells #[v] 89)) (Nat.le_of_lt (by rw [HEQ.out]; omega)) hb5
  rw [HEQ.out] at hb6
  exact bodyPost_ret (v := evV 0 0 0) (by simp [results, Tryz.results232, go_sem, r0, r1, r2, r3, r4]) rfl ⟨rfl, hb6⟩
set_option maxHeartbeats 4000000 in
theorem sought_yes (h : Ms w0 w X S D N c z L cc) (hs : z.sk = some ⟨Y, 0, none⟩) {i draw b0 b1 b2 t : Int} {nx dv pv : Value} (hk : Kb w Y N i draw b0 b1 b2 nx dv pv t true) (hne : Y ≠ X) :
    Calls Tryz.prog 99 #[ptr X] w fun e w' => e = .returned (.tuple #[]) ∧ Ms w0 w' X S D N c { z with b0 := b0, b1 := b1, b2 := b2, tk := t, hs := true, dg := 2, nx := fnv 113 X } L cc := by
  have hmf : ∀ (fn : Fn) (first cap : Array Value) (w : World), (Instr.makeFunc fn first cap).run Tryz.prog w = .ok (.func fn first cap) w := fun _ _ _ _ => rfl
  have H := Lib.hid h; have HK := Lib.hid hk; have HN := Lib.hid hne; have HSK := Lib.hid hs
  have q6 := h.mem.c6
  rw [hs] at q6
  clear h hk hne hs
  go_enter Tryz.func99, Tryz.ntmps99
  go_wp2_with (first
    | (go_at_call 111; (with_reducible refine (bag_raw HK.out).mono ?_); rintro r w1 ⟨rfl, hb⟩; have H1 := Lib.hid (H.out.step hb); have HK1 := Lib.hid (HK.out.step hb); clear hb; obtain ⟨⟨q9, q10⟩, q11⟩ := H1.out.mem.bag; obtain ⟨⟨f9, f10⟩, f11⟩ := H1.out.mem.bagf; have H2 := Lib.hid (H1.out.pbg b0 b1 b2); have HK2 := Lib.hid (HK1.out.same (((UF.bgK w1 X b0 b1 b2).block Y HK1.out.lt HN.out))); have s6 := H2.out.mem.c6; rw [show Mz.sk { z with b0 := b0, b1 := b1, b2 := b2 } = some ⟨Y, 0, none⟩ from HSK.out] at s6)
    | (go_at_call 112; (with_reducible refine (task_raw HK2.out).mono ?_); rintro r w3 ⟨rfl, hb⟩; have H3 := Lib.hid (H2.out.step hb); clear hb; have q7 := H3.out.mem.c7; have f7 := H3.out.mem.f 7; have H4 := Lib.hid (H3.out.p7 t); have q8 := H4.out.mem.c8; have f8 := H4.out.mem.f 8; have H5 := Lib.hid (H4.out.p8 true); have r8 := H5.out.mem.c8; have H7 := Lib.hid H5.out)
    | (go_at_call 78; (with_reducible refine (doesM H7.out 2 113).mono ?_); rintro r w5 ⟨rfl, hk⟩; have H9 := Lib.hid hk; clear hk)
    | fail)
  go_returns
  exact ⟨rfl, H9.out⟩
set_option maxHeartbeats 4000000 in
theorem sought_no (h : Ms w0 w X S D N c z L cc) (hs : z.sk = some ⟨Y, 0, none⟩) {i draw b0 b1 b2 t : Int} {nx dv pv : Value} (hk : Kb w Y N i draw b0 b1 b2 nx dv pv t false) (hne : Y ≠ X) :
    Calls Tryz.prog 99 #[ptr X] w fun e w' => e = .returned (.tuple #[]) ∧ Ms w0 w' X S D N c { z with b0 := b0, b1 := b1, b2 := b2, tk := 0, hs := false, dg := 0, nx := fnv 79 X } L cc := by
  have hmf : ∀ (fn : Fn) (first cap : Array Value) (w : World), (Instr.makeFunc fn first cap).run Tryz.prog w = .ok (.func fn first cap) w := fun _ _ _ _ => rfl
  have H := Lib.hid h; have HK := Lib.hid hk; have HN := Lib.hid hne; have HSK := Lib.hid hs
  have q6 := h.mem.c6
  rw [hs] at q6
  clear h hk hne hs
  go_enter Tryz.func99, Tryz.ntmps99
  go_wp2_with (first
    | (go_at_call 111; (with_reducible refine (bag_raw HK.out).mono ?_); rintro r w1 ⟨rfl, hb⟩; have H1 := Lib.hid (H.out.step hb); have HK1 := Lib.hid (HK.out.step hb); clear hb; obtain ⟨⟨q9, q10⟩, q11⟩ := H1.out.mem.bag; obtain ⟨⟨f9, f10⟩, f11⟩ := H1.out.mem.bagf; have H2 := Lib.hid (H1.out.pbg b0 b1 b2); have HK2 := Lib.hid (HK1.out.same (((UF.bgK w1 X b0 b1 b2).block Y HK1.out.lt HN.out))); have s6 := H2.out.mem.c6; rw [show Mz.sk { z with b0 := b0, b1 := b1, b2 := b2 } = some ⟨Y, 0, none⟩ from HSK.out] at s6)
    | (go_at_call 112; (with_reducible refine (task_raw HK2.out).mono ?_); rintro r w3 ⟨rfl, hb⟩; have H3 := Lib.hid (H2.out.step hb); clear hb; have q7 := H3.out.mem.c7; have f7 := H3.out.mem.f 7; have H4 := Lib.hid (H3.out.p7 t); have q8 := H4.out.mem.c8; have f8 := H4.out.mem.f 8; have H5 := Lib.hid (H4.out.p8 false); have r8 := H5.out.mem.c8; have H7 := Lib.hid H5.out)
    | (go_at_call 56; (with_reducible refine (lookAnewM H7.out).mono ?_); rintro r w5 ⟨rfl, hk⟩; have H9 := Lib.hid hk; clear hk)
    | fail)
  go_returns
  exact ⟨rfl, H9.out⟩
set_option maxHeartbeats 4000000 in
theorem goOn_w_end (h : Mb w X (some ⟨N, 0, none⟩) z) (ho : z.ot = .iface 129 (ptr Y)) {g : Nat} (hg : g = 56 ∨ g = 99) (ht : z.th = fnv g X) (dr k a b : Int) (Q R : World → Prop)
    (HS : Calls Tryz.prog 234 #[ptr Y, ptr S] w fun e w' => e = .returned (.bool true) ∧ Q w') (HQ : ∀ w1, Q w1 → Ms w1 w1 X S D N c z L cc)
    (HE : ∀ w1, Q w1 → Calls Tryz.prog 233 #[ptr Y] w1 fun e w' => e = .returned (evV k a b) ∧ Below w1.heap.size w1 w')
    (HT : ∀ w1 w2, Q w1 → Ms w1 w2 X S D N c { z with ek := k, ea := a, eb := b } L cc → UF (fun j => j = X) w1 w2 → Calls Tryz.prog g #[ptr X] w2 fun e w' => e = .returned (.tuple #[]) ∧ R w') :
    Calls Tryz.prog 110 #[ptr X, ptr S, .int .i64 dr] w fun e w' => e = .returned (.tuple #[]) ∧ R w' := by
  have q4 := h.c4
  rw [ho] at q4
  have HSS := Lib.hid HS; have HQQ := Lib.hid HQ; have HEE := Lib.hid HE; have HO := Lib.hid ho; have HTH := Lib.hid ht; have HTT := Lib.hid HT
  clear h ho HS HQ HE ht HT
  rcases hg with rfl | rfl
  all_goals
    go_enter Tryz.func110, Tryz.ntmps110
    go_wp2_with (first
      | (go_at_call 234; (with_reducible refine HSS.out.mono ?_); rintro r w1 ⟨rfl, hq⟩; have HQ1 := Lib.hid hq; have H1 := Lib.hid (HQQ.out w1 hq); clear hq; have p4 := H1.out.mem.c4; rw [HO.out] at p4)
      | (go_at_call 233; (with_reducible refine (HEE.out _ HQ1.out).mono ?_); rintro r w2 ⟨rfl, hb⟩; have H2 := Lib.hid (H1.out.step hb); have HB2 := Lib.hid hb; clear hb; obtain ⟨⟨e0, e1, e2⟩, e3, e4⟩ := H2.out.mem.ev; obtain ⟨⟨g0, g1, g2⟩, g3, g4⟩ := H2.out.mem.evf; have H3 := Lib.hid (H2.out.pev k a b); have HU3 := Lib.hid ((UF.of_below (F := fun j => j = X) HB2.out).trans (UF.evK w2 X k a b) (fun _ x => x) (fun _ _ x => x)); have p5 := H3.out.mem.c5; rw [show Mz.th { z with ek := k, ea := a, eb := b } = _ from HTH.out] at p5)
      | ((with_reducible refine (HTT.out _ _ HQ1.out H3.out HU3.out).mono ?_); rintro r w4 ⟨rfl, hr⟩; have HR := Lib.hid hr; clear hr)
      | fail)
    go_returns
    exact ⟨rfl, HR.out⟩
set_option maxHeartbeats 4000000 in
theorem goOn_w_on (h : Mb w X (some ⟨N, 0, none⟩) z) (ho : z.ot = .iface 129 (ptr Y)) (dr k a b : Int) (Q : World → Prop)
    (HS : Calls Tryz.prog 234 #[ptr Y, ptr S] w fun e w' => e = .returned (.bool false) ∧ Q w') (HQ : ∀ w1, Q w1 → Ms w1 w1 X S D N c z L cc)
    (HE : ∀ w1, Q w1 → Calls Tryz.prog 233 #[ptr Y] w1 fun e w' => e = .returned (evV k a b) ∧ Below w1.heap.size w1 w') :
    Calls Tryz.prog 110 #[ptr X, ptr S, .int .i64 dr] w fun e w' => e = .returned (.tuple #[]) ∧ ∃ w1, Q w1 ∧ Ms w1 w' X S D N c { z with ek := k, ea := a, eb := b } L cc := by
  have q4 := h.c4
  rw [ho] at q4
  have HSS := Lib.hid HS; have HQQ := Lib.hid HQ; have HEE := Lib.hid HE; have HO := Lib.hid ho
  clear h ho HS HQ HE
  go_enter Tryz.func110, Tryz.ntmps110
  go_wp2_with (first
    | (go_at_call 234; (with_reducible refine HSS.out.mono ?_); rintro r w1 ⟨rfl, hq⟩; have HQ1 := Lib.hid hq; have H1 := Lib.hid (HQQ.out w1 hq); clear hq; have p4 := H1.out.mem.c4; rw [HO.out] at p4)
    | (go_at_call 233; (with_reducible refine (HEE.out _ HQ1.out).mono ?_); rintro r w2 ⟨rfl, hb⟩; have H2 := Lib.hid (H1.out.step hb); clear hb; obtain ⟨⟨e0, e1, e2⟩, e3, e4⟩ := H2.out.mem.ev; obtain ⟨⟨g0, g1, g2⟩, g3, g4⟩ := H2.out.mem.evf; have H3 := Lib.hid (H2.out.pev k a b))
    | fail)
  go_returns
  exact ⟨rfl, w1, HQ1.out, H3.out⟩
set_option maxHeartbeats 4000000 in
theorem goOn_z_end (h : Mb w X (some ⟨N, 0, none⟩) z) (ho : z.ot = .iface 148 (ptr Y)) {g : Nat} (hg : g = 56 ∨ g = 99) (ht : z.th = fnv g X) (dr k a b : Int) (Q R : World → Prop)
    (HS : Calls Tryz.prog 238 #[ptr Y, ptr S] w fun e w' => e = .returned (.bool true) ∧ Q w') (HQ : ∀ w1, Q w1 → Ms w1 w1 X S D N c z L cc)
    (HE : ∀ w1, Q w1 → Calls Tryz.prog 237 #[ptr Y] w1 fun e w' => e = .returned (evV k a b) ∧ Below w1.heap.size w1 w')
    (HT : ∀ w1 w2, Q w1 → Ms w1 w2 X S D N c { z with ek := k, ea := a, eb := b } L cc → UF (fun j => j = X) w1 w2 → Calls Tryz.prog g #[ptr X] w2 fun e w' => e = .returned (.tuple #[]) ∧ R w') :
    Calls Tryz.prog 110 #[ptr X, ptr S, .int .i64 dr] w fun e w' => e = .returned (.tuple #[]) ∧ R w' := by
  have q4 := h.c4
  rw [ho] at q4
  have HSS := Lib.hid HS; have HQQ := Lib.hid HQ; have HEE := Lib.hid HE; have HO := Lib.hid ho; have HTH := Lib.hid ht; have HTT := Lib.hid HT
  clear h ho HS HQ HE ht HT
  rcases hg with rfl | rfl
  all_goals
    go_enter Tryz.func110, Tryz.ntmps110
    go_wp2_with (first
      | (go_at_call 238; (with_reducible refine HSS.out.mono ?_); rintro r w1 ⟨rfl, hq⟩; have HQ1 := Lib.hid hq; have H1 := Lib.hid (HQQ.out w1 hq); clear hq; have p4 := H1.out.mem.c4; rw [HO.out] at p4)
      | (go_at_call 237; (with_reducible refine (HEE.out _ HQ1.out).mono ?_); rintro r w2 ⟨rfl, hb⟩; have H2 := Lib.hid (H1.out.step hb); have HB2 := Lib.hid hb; clear hb; obtain ⟨⟨e0, e1, e2⟩, e3, e4⟩ := H2.out.mem.ev; obtain ⟨⟨g0, g1, g2⟩, g3, g4⟩ := H2.out.mem.evf; have H3 := Lib.hid (H2.out.pev k a b); have HU3 := Lib.hid ((UF.of_below (F := fun j => j = X) HB2.out).trans (UF.evK w2 X k a b) (fun _ x => x) (fun _ _ x => x)); have p5 := H3.out.mem.c5; rw [show Mz.th { z with ek := k, ea := a, eb := b } = _ from HTH.out] at p5)
      | ((with_reducible refine (HTT.out _ _ HQ1.out H3.out HU3.out).mono ?_); rintro r w4 ⟨rfl, hr⟩; have HR := Lib.hid hr; clear hr)
      | fail)
    go_returns
    exact ⟨rfl, HR.out⟩
set_option maxHeartbeats 4000000 in
theorem goOn_z_on (h : Mb w X (some ⟨N, 0, none⟩) z) (ho : z.ot = .iface 148 (ptr Y)) (dr k a b : Int) (Q : World → Prop)
    (HS : Calls Tryz.prog 238 #[ptr Y, ptr S] w fun e w' => e = .returned (.bool false) ∧ Q w') (HQ : ∀ w1, Q w1 → Ms w1 w1 X S D N c z L cc)
    (HE : ∀ w1, Q w1 → Calls Tryz.prog 237 #[ptr Y] w1 fun e w' => e = .returned (evV k a b) ∧ Below w1.heap.size w1 w') :
    Calls Tryz.prog 110 #[ptr X, ptr S, .int .i64 dr] w fun e w' => e = .returned (.tuple #[]) ∧ ∃ w1, Q w1 ∧ Ms w1 w' X S D N c { z with ek := k, ea := a, eb := b } L cc := by
  have q4 := h.c4
  rw [ho] at q4
  have HSS := Lib.hid HS; have HQQ := Lib.hid HQ; have HEE := Lib.hid HE; have HO := Lib.hid ho
  clear h ho HS HQ HE
  go_enter Tryz.func110, Tryz.ntmps110
  go_wp2_with (first
    | (go_at_call 238; (with_reducible refine HSS.out.mono ?_); rintro r w1 ⟨rfl, hq⟩; have HQ1 := Lib.hid hq; have H1 := Lib.hid (HQQ.out w1 hq); clear hq; have p4 := H1.out.mem.c4; rw [HO.out] at p4)
    | (go_at_call 237; (with_reducible refine (HEE.out _ HQ1.out).mono ?_); rintro r w2 ⟨rfl, hb⟩; have H2 := Lib.hid (H1.out.step hb); clear hb; obtain ⟨⟨e0, e1, e2⟩, e3, e4⟩ := H2.out.mem.ev; obtain ⟨⟨g0, g1, g2⟩, g3, g4⟩ := H2.out.mem.evf; have H3 := Lib.hid (H2.out.pev k a b))
    | fail)
  go_returns
  exact ⟨rfl, w1, HQ1.out, H3.out⟩
set_option maxHeartbeats 4000000 in
theorem goOn_s_end (h : Mb w X (some ⟨N, 0, none⟩) z) (ho : z.ot = .iface 89 (.agg #[ptr Y])) {g : Nat} (hg : g = 56 ∨ g = 99) (ht : z.th = fnv g X) (dr k a b : Int) (Q R : World → Prop)
    (HS : Calls Tryz.prog 231 #[ptr Y, ptr S] w fun e w' => e = .returned (.bool true) ∧ Q w') (HQ : ∀ w1, Q w1 → Ms w1 w1 X S D N c z L cc)
    (HE : ∀ w1, Q w1 → Calls Tryz.prog 232 #[.agg #[ptr Y]] w1 fun e w' => e = .returned (evV k a b) ∧ Below w1.heap.size w1 w')
    (HT : ∀ w1 w2, Q w1 → Ms w1 w2 X S D N c { z with ek := k, ea := a, eb := b } L cc → UF (fun j => j = X) w1 w2 → Calls Tryz.prog g #[ptr X] w2 fun e w' => e = .returned (.tuple #[]) ∧ R w') :
    Calls Tryz.prog 110 #[ptr X, ptr S, .int .i64 dr] w fun e w' => e = .returned (.tuple #[]) ∧ R w' := by
  have q4 := h.c4
  rw [ho] at q4
  have HSS := Lib.hid HS; have HQQ := Lib.hid HQ; have HEE := Lib.hid HE; have HO := Lib.hid ho; have HTH := Lib.hid ht; have HTT := Lib.hid HT
  clear h ho HS HQ HE ht HT
  rcases hg with rfl | rfl
  all_goals
    go_enter Tryz.func110, Tryz.ntmps110
    go_wp2_with (first
      | (go_at_call 231; (with_reducible refine HSS.out.mono ?_); rintro r w1 ⟨rfl, hq⟩; have HQ1 := Lib.hid hq; have H1 := Lib.hid (HQQ.out w1 hq); clear hq; have p4 := H1.out.mem.c4; rw [HO.out] at p4)
      | (go_at_call 232; (with_reducible refine (HEE.out _ HQ1.out).mono ?_); rintro r w2 ⟨rfl, hb⟩; have H2 := Lib.hid (H1.out.step hb); have HB2 := Lib.hid hb; clear hb; obtain ⟨⟨e0, e1, e2⟩, e3, e4⟩ := H2.out.mem.ev; obtain ⟨⟨g0, g1, g2⟩, g3, g4⟩ := H2.out.mem.evf; have H3 := Lib.hid (H2.out.pev k a b); have HU3 := Lib.hid ((UF.of_below (F := fun j => j = X) HB2.out).trans (UF.evK w2 X k a b) (fun _ x => x) (fun _ _ x => x)); have p5 := H3.out.mem.c5; rw [show Mz.th { z with ek := k, ea := a, eb := b } = _ from HTH.out] at p5)
      | ((with_reducible refine (HTT.out _ _ HQ1.out H3.out HU3.out).mono ?_); rintro r w4 ⟨rfl, hr⟩; have HR := Lib.hid hr; clear hr)
      | fail)
    go_returns
    exact ⟨rfl, HR.out⟩
set_option maxHeartbeats 4000000 in
theorem goOn_s_on (h : Mb w X (some ⟨N, 0, none⟩) z) (ho : z.ot = .iface 89 (.agg #[ptr Y])) (dr k a b : Int) (Q : World → Prop)
    (HS : Calls Tryz.prog 231 #[ptr Y, ptr S] w fun e w' => e = .returned (.bool false) ∧ Q w') (HQ : ∀ w1, Q w1 → Ms w1 w1 X S D N c z L cc)
    (HE : ∀ w1, Q w1 → Calls Tryz.prog 232 #[.agg #[ptr Y]] w1 fun e w' => e = .returned (evV k a b) ∧ Below w1.heap.size w1 w') :
    Calls Tryz.prog 110 #[ptr X, ptr S, .int .i64 dr] w fun e w' => e = .returned (.tuple #[]) ∧ ∃ w1, Q w1 ∧ Ms w1 w' X S D N c { z with ek := k, ea := a, eb := b } L cc := by
  have q4 := h.c4
  rw [ho] at q4
  have HSS := Lib.hid HS; have HQQ := Lib.hid HQ; have HEE := Lib.hid HE; have HO := Lib.hid ho
  clear h ho HS HQ HE
  go_enter Tryz.func110, Tryz.ntmps110
  go_wp2_with (first
    | (go_at_call 231; (with_reducible refine HSS.out.mono ?_); rintro r w1 ⟨rfl, hq⟩; have HQ1 := Lib.hid hq; have H1 := Lib.hid (HQQ.out w1 hq); clear hq; have p4 := H1.out.mem.c4; rw [HO.out] at p4)
    | (go_at_call 232; (with_reducible refine (HEE.out _ HQ1.out).mono ?_); rintro r w2 ⟨rfl, hb⟩; have H2 := Lib.hid (H1.out.step hb); clear hb; obtain ⟨⟨e0, e1, e2⟩, e3, e4⟩ := H2.out.mem.ev; obtain ⟨⟨g0, g1, g2⟩, g3, g4⟩ := H2.out.mem.evf; have H3 := Lib.hid (H2.out.pev k a b))
    | fail)
  go_returns
  exact ⟨rfl, w1, HQ1.out, H3.out⟩
theorem eqin_fm (d f M : Nat) (w : World) : (Op.equalIn (d + 1) 38 (fnv f M) .nilFunc).run Tryz.prog w = .ok false w := by
  simp [Op.equalIn, run_underlying Tryz.underlying38]
@[go_sem] theorem eql_fm (f M : Nat) (w : World) : (binOp .eql 38 (fnv f M) .nilFunc).run Tryz.prog w = .ok (.bool false) w := by
  have h : (Op.equal 38 (fnv f M) .nilFunc).run Tryz.prog w = .ok false w := eqin_fm 9999 f M w
  simp only [binOp]
  simp [h]
set_option maxHeartbeats 4000000 in
theorem mstep_raw {mp : Option Addr} {f : Nat} (h : Mb w X mp z) (hf : f = 79 ∨ f = 110 ∨ f = 113) (hnx : z.nx = fnv f X) (dr : Int) (Q : World → Prop)
    (HN : ∀ w1, Mb w1 X mp { z with ek := 0, ea := 0, eb := 0 } → UF (fun k => k = X) w w1 → Calls Tryz.prog f #[ptr X, ptr S, .int .i64 dr] w1 fun e w' => e = .returned (.tuple #[]) ∧ Q w') :
    Calls Tryz.prog 13 #[ptr X, ptr S, .int .i64 dr] w fun e w' => e = .returned (.tuple #[]) ∧ Q w' := by
  have HB := Lib.hid h
  have HNX := Lib.hid hnx
  have c3 := h.c3
  rw [hnx] at c3
  have HNN := Lib.hid HN
  clear hnx h HN
  rcases hf with rfl | rfl | rfl
  all_goals
    go_enter Tryz.func13, Tryz.ntmps13
    go_wp2_with (first
      | (go_at_call 57; (with_reducible refine (noneM_any _).mono ?_); rintro r w2 ⟨rfl, hb⟩; have H2 := Lib.hid (HB.out.step hb); have HS2 := Lib.hid hb; clear hb; obtain ⟨⟨e0, e1, e2⟩, e3, e4⟩ := H2.out.ev; obtain ⟨⟨g0, g1, g2⟩, g3, g4⟩ := H2.out.evf; have H3 := Lib.hid (H2.out.pev 0 0 0); have HU := Lib.hid ((UF.of_below (F := fun k => k = X) HS2.out).trans (UF.evK w2 X 0 0 0) (fun _ x => x) (fun _ _ x => x)); have d3 := H3.out.c3; rw [show Mz.nx { z with ek := 0, ea := 0, eb := 0 } = _ from HNX.out] at d3)
      | ((with_reducible refine (HNN.out _ H3.out HU.out).mono ?_); rintro r w1 ⟨rfl, hk⟩; have HK := Lib.hid hk; clear hk)
      | fail)
    go_returns
    exact ⟨rfl, HK.out⟩
end
section
variable {w w' : World} {X S D N Y M : Nat} {c : Cfg}
theorem mb_new (w : World) (mp : Option Addr) (i : Int) : Mb (w.alloc (.cells #[.pointer mp, .int .i64 i, .int .i64 0, .nilFunc, .nilIface, .nilFunc, .pointer none, .int .u64 0, .bool false, .int .i64 0, .int .i64 0, .int .i64 0, .int .i64 0, .int .i64 0, .int .i64 0, .int .i64 0, .int .i64 0] 91)) w.heap.size mp ⟨i, 0, .nilFunc, .nilIface, .nilFunc, none, 0, false, 0, 0, 0, 0, 0, 0⟩ := Go.heap_alloc_new _ _
abbrev mz0 (i : Int) (nx : Value) : Mz := ⟨i, 0, nx, .nilIface, .nilFunc, none, 0, false, 0, 0, 0, 0, 0, 0⟩
set_option maxHeartbeats 1000000 in
theorem doesB {mp : Option Addr} {z : Mz} (h : Mb w X mp z) (d : Int) (f : Nat) : Calls Tryz.prog 78 #[ptr X, .int .i64 d, fnv f X] w fun e w' => e = .returned (.tuple #[]) ∧ Mb w' X mp { z with dg := d, nx := fnv f X } ∧ UF (fun k => k = X) w w' := by
  have q2 := h.c2; have f2 := h.f 2
  have h2 : Mb _ X mp { z with dg := d } := h.put 2 (.int .i64 d) rfl
  have q3 := h2.c3; have f3 := h2.f 3
  have h3 : Mb _ X mp { z with dg := d, nx := fnv f X } := h2.put 3 (fnv f X) rfl
  have H3 := Lib.hid h3
  have HU3 := Lib.hid ((UF.set w X 2 (.int .i64 d)).trans (UF.set _ X 3 (fnv f X)) (H := fun k => k = X) (fun _ x => x) (fun _ _ x => x))
  clear h h2 h3
  go_enter Tryz.func78, Tryz.ntmps78
  go_wp2
  go_returns
  exact ⟨rfl, H3.out, HU3.out⟩
set_option maxHeartbeats 1000000 in
theorem lookAnewB {mp : Option Addr} {z : Mz} (h : Mb w X mp z) : Calls Tryz.prog 56 #[ptr X] w fun e w' => e = .returned (.tuple #[]) ∧ Mb w' X mp { z with tk := 0, hs := false, dg := 0, nx := fnv 79 X } ∧ UF (fun k => k = X) w w' := by
  have hmf : ∀ (fn : Fn) (first cap : Array Value) (w : World), (Instr.makeFunc fn first cap).run Tryz.prog w = .ok (.func fn first cap) w := fun _ _ _ _ => rfl
  have q7 := h.c7; have f7 := h.f 7
  have h2 : Mb _ X mp { z with tk := 0 } := h.put 7 (.int .u64 0) rfl
  have q8 := h2.c8; have f8 := h2.f 8
  have h3 : Mb _ X mp { z with tk := 0, hs := false } := h2.put 8 (.bool false) rfl
  have H3 := Lib.hid h3
  have HU3 := Lib.hid ((UF.set w X 7 (.int .u64 0)).trans (UF.set _ X 8 (.bool false)) (H := fun k => k = X) (fun _ x => x) (fun _ _ x => x))
  clear h h2 h3
  go_enter Tryz.func56, Tryz.ntmps56
  go_wp2_with (first
    | (go_at_call 78; (with_reducible refine (doesB H3.out 0 79).mono ?_); rintro r w1 ⟨rfl, hk, hu⟩; have H4 := Lib.hid hk; have HU4 := Lib.hid hu; clear hk hu)
    | fail)
  go_returns
  exact ⟨rfl, H4.out, HU3.out.trans HU4.out (fun _ x => x) (fun _ _ x => x)⟩
set_option maxHeartbeats 2000000 in
theorem newM_yes (hc : OkC c) (i : Int) (hi : (Lit.int .i64 i).wf = true) (hm : Lay.IsMap w N c) (hp : 0 ≤ plcc c 8 i 0) :
    Calls Tryz.prog 12 #[Lay.mapP N, .int .i64 i] w fun e w' => ∃ X, e = .returned (ptr X) ∧ w.heap.size ≤ X ∧ Mb w' X (some ⟨N, 0, none⟩) (mz0 i (fnv 79 X)) ∧ Below w.heap.size w w' := by
  have HM := Lib.hid hm; have HC := Lib.hid hc; have HI := Lib.hid hi
  have HB0 := Lib.hid (mb_new w (some ⟨N, 0, none⟩) i)
  have HL0 := Lib.hid (below_alloc0 (Below.refl w.heap.size w) (.cells #[.pointer (some ⟨N, 0, none⟩), .int .i64 i, .int .i64 0, .nilFunc, .nilIface, .nilFunc, .pointer none, .int .u64 0, .bool false, .int .i64 0, .int .i64 0, .int .i64 0, .int .i64 0, .int .i64 0, .int .i64 0, .int .i64 0, .int .i64 0] 91))
  obtain ⟨p, hpp⟩ : ∃ p, p = plcc c 8 i 0 := ⟨_, rfl⟩
  rw [← hpp] at hp
  have dp : decide (p ≥ 0) = true := by simpa using hp
  have HPP := Lib.hid hpp
  clear hm hc hi hp hpp
  go_enter Tryz.func12, Tryz.ntmps12
  go_wp2_with (first
    | (go_at_call 55; (with_reducible refine (Lay.top_m HC.out N i HI.out _ (HM.out.below HL0.out)).mono ?_); rintro r w1 ⟨rfl, hb⟩; rw [← HPP.out]; have HB1 := Lib.hid (HB0.out.step hb); have HL1 := Lib.hid (below_step HL0.out HL0.out.size hb); clear hb)
    | (go_at_call 56; (with_reducible refine (lookAnewB HB1.out).mono ?_); rintro r w2 ⟨rfl, hk, hu⟩; have HB2 := Lib.hid hk; have HU := Lib.hid hu; clear hk hu)
    | fail)
  go_ret
  exact ⟨_, rfl, Nat.le_refl _, HB2.out, below_uf HL1.out (Nat.le_refl _) HU.out (fun _ e => Nat.le_of_eq e.symm)⟩
end
end Go.Proofs.YthoiaffeenhfgaaGreat
