
import Derived.Test.YthoiaffeenhfgaaGreatJ2
namespace Go.Proofs.YthoiaffeenhfgaaGreat
open Go.RowKit
set_option linter.unusedVariables false
set_option linter.unusedSimpArgs false
set_option maxRecDepth 100000
open Lay (plcc plc nodesN OkC Cfg kindV partsC)
section
variable {w0 w w' : World} {X S D N M : Nat} {c : Cfg} {z : Swc} {L : List Int} {cc : Int}
set_option maxHeartbeats 4000000 in
theorem seeSweepS (h : Ss w0 w X S D N c z L cc) (h0 : 0 ≤ cc) (h1 : cc ≤ 1000000000) (ww : WW L) (y0 : 0 ≤ z.cy ∧ z.cy ≤ 18446744073709551615) :
    Calls Tryz.prog 114 #[ptr X, ptr S] w fun e w' => e = .returned (.tuple #[]) ∧ Ss w0 w' X S D N c { z with se := ldq L 2, nx := if hiw (ldq L 2) = z.cy % 4294967296 ∧ low (ldq L 2) < partsC c then fns 128 X else .nilFunc } L (cc + 1) := by
  have hmf : ∀ (fn : Fn) (first cap : Array Value) (w : World), (Instr.makeFunc fn first cap).run Tryz.prog w = .ok (.func fn first cap) w := fun _ _ _ _ => rfl
  have H := Lib.hid h
  have q0 := h.mem.c0
  have hW := ww.ldq 2
  obtain ⟨W, hWe⟩ : ∃ W, W = ldq L 2 := ⟨_, rfl⟩
  have eld : ldv L 2 = W := by rw [hWe]; exact ldv_eq _ _
  rw [← hWe] at hW ⊢
  have HE := Lib.hid eld
  have HW0 := Lib.hid hW
  have HY0 := Lib.hid y0
  obtain ⟨a, ha⟩ : ∃ a, a = W / 4294967296 := ⟨_, rfl⟩
  obtain ⟨l, hl⟩ : ∃ l, l = W % 4294967296 := ⟨_, rfl⟩
  obtain ⟨r, hr⟩ : ∃ r, r = z.cy % 4294967296 := ⟨_, rfl⟩
  obtain ⟨ps, hps⟩ : ∃ ps, ps = partsC c := ⟨_, rfl⟩
  have ehi : hiw W = a := by unfold hiw; omega
  have elo : low W = l := by unfold low; omega
  have el : IntKind.i64.wrap l = l := IntWalk.i64_in _ (by omega)
  rw [ehi, elo, ← hr, ← hps]
  have HA := Lib.hid ha; have HL := Lib.hid hl; have HR := Lib.hid hr; have HPS := Lib.hid hps
  clear h hWe eld hW y0 ha hl hr hps ehi elo ww
  by_cases hne : a = r
  · by_cases hlt : l < ps
    · rw [if_pos ⟨hne, hlt⟩]
      have d1 : decide (l ≥ ps) = false := by simpa using hlt
      subst hne
      clear hlt
      go_enter Tryz.func114, Tryz.ntmps114
      go_wp2_with (first
        | (go_at_call 62; (with_reducible refine (Lay.sweep_m H.out.ok N _ H.out.mp).mono ?_); rintro r w1 ⟨rfl, hb⟩; rw [sweep2]; have H1 := Lib.hid (H.out.step hb); clear hb)
        | (go_at_call 25; (with_reducible refine (load_any _ _ H1.out.st h0 h1).mono ?_); rintro r w2 ⟨rfl, hk⟩; rw [HE.out]; have H2 := Lib.hid (H1.out.left hk); clear hk; have q3 := H2.out.mem.c3; have f3 := H2.out.mem.f 3; have H3 := Lib.hid (H2.out.p3 W); have p3 := H3.out.mem.c3)
        | (go_at_call 126; (with_reducible refine (split_any W HW0.out.1 HW0.out.2 _).mono ?_); rintro r w4 ⟨rfl, hb⟩; rw [← HA.out, ← HL.out]; have H4 := Lib.hid (H3.out.step hb); clear hb; have q1 := H4.out.mem.c1)
        | (go_at_call 126; (with_reducible refine (split_any z.cy HY0.out.1 HY0.out.2 _).mono ?_); rintro r w5 ⟨rfl, hb⟩; rw [← HR.out]; have H5 := Lib.hid (H4.out.step hb); clear hb; have p0 := H5.out.mem.c0)
        | (go_at_call 35; (with_reducible refine (Lay.parts_m H5.out.ok N _ H5.out.mp).mono ?_); rintro r w6 ⟨rfl, hb⟩; rw [← HPS.out]; have H6 := Lib.hid (H5.out.step hb); clear hb; have q2 := H6.out.mem.c2; have f2 := H6.out.mem.f 2; have H7 := Lib.hid (H6.out.p2 (fns 128 X)))
        | fail)
      go_returns
      exact ⟨rfl, H7.out⟩
    · rw [if_neg (fun e => hlt e.2)]
      have d1 : decide (l ≥ ps) = true := by simpa using hlt
      subst hne
      clear hlt
      go_enter Tryz.func114, Tryz.ntmps114
      go_wp2_with (first
        | (go_at_call 62; (with_reducible refine (Lay.sweep_m H.out.ok N _ H.out.mp).mono ?_); rintro r w1 ⟨rfl, hb⟩; rw [sweep2]; have H1 := Lib.hid (H.out.step hb); clear hb)
        | (go_at_call 25; (with_reducible refine (load_any _ _ H1.out.st h0 h1).mono ?_); rintro r w2 ⟨rfl, hk⟩; rw [HE.out]; have H2 := Lib.hid (H1.out.left hk); clear hk; have q3 := H2.out.mem.c3; have f3 := H2.out.mem.f 3; have H3 := Lib.hid (H2.out.p3 W); have p3 := H3.out.mem.c3)
        | (go_at_call 126; (with_reducible refine (split_any W HW0.out.1 HW0.out.2 _).mono ?_); rintro r w4 ⟨rfl, hb⟩; rw [← HA.out, ← HL.out]; have H4 := Lib.hid (H3.out.step hb); clear hb; have q1 := H4.out.mem.c1)
        | (go_at_call 126; (with_reducible refine (split_any z.cy HY0.out.1 HY0.out.2 _).mono ?_); rintro r w5 ⟨rfl, hb⟩; rw [← HR.out]; have H5 := Lib.hid (H4.out.step hb); clear hb; have p0 := H5.out.mem.c0)
        | (go_at_call 35; (with_reducible refine (Lay.parts_m H5.out.ok N _ H5.out.mp).mono ?_); rintro r w6 ⟨rfl, hb⟩; rw [← HPS.out]; have H6 := Lib.hid (H5.out.step hb); clear hb)
        | (go_at_call 127; (with_reducible refine (finS H6.out).mono ?_); rintro r w7 ⟨rfl, hk⟩; have H7 := Lib.hid hk; clear hk)
        | fail)
      go_returns
      exact ⟨rfl, H7.out⟩
  · rw [if_neg (fun e => hne e.1)]
    have d1 : (a != r) = true := by simpa using hne
    clear hne
    go_enter Tryz.func114, Tryz.ntmps114
    go_wp2_with (first
      | (go_at_call 62; (with_reducible refine (Lay.sweep_m H.out.ok N _ H.out.mp).mono ?_); rintro r w1 ⟨rfl, hb⟩; rw [sweep2]; have H1 := Lib.hid (H.out.step hb); clear hb)
      | (go_at_call 25; (with_reducible refine (load_any _ _ H1.out.st h0 h1).mono ?_); rintro r w2 ⟨rfl, hk⟩; rw [HE.out]; have H2 := Lib.hid (H1.out.left hk); clear hk; have q3 := H2.out.mem.c3; have f3 := H2.out.mem.f 3; have H3 := Lib.hid (H2.out.p3 W); have p3 := H3.out.mem.c3)
      | (go_at_call 126; (with_reducible refine (split_any W HW0.out.1 HW0.out.2 _).mono ?_); rintro r w4 ⟨rfl, hb⟩; rw [← HA.out, ← HL.out]; have H4 := Lib.hid (H3.out.step hb); clear hb; have q1 := H4.out.mem.c1)
      | (go_at_call 126; (with_reducible refine (split_any z.cy HY0.out.1 HY0.out.2 _).mono ?_); rintro r w5 ⟨rfl, hb⟩; rw [← HR.out]; have H5 := Lib.hid (H4.out.step hb); clear hb; have p0 := H5.out.mem.c0)
      | (go_at_call 127; (with_reducible refine (finS H5.out).mono ?_); rintro r w7 ⟨rfl, hk⟩; have H7 := Lib.hid hk; clear hk)
      | fail)
    go_returns
    exact ⟨rfl, H7.out⟩
set_option maxHeartbeats 4000000 in
theorem takePartNoS (h : Ss w0 w X S D N c z L cc) (h0 : 0 ≤ cc) (h1 : cc ≤ 1000000000) (y0 : 0 ≤ z.se ∧ z.se ≤ 18446744073709551615) (hlo : low z.se < partsC c) (hb : swB L 2 z.se = false) :
    Calls Tryz.prog 128 #[ptr X, ptr S] w fun e w' => e = .returned (.tuple #[]) ∧ Ss w0 w' X S D N c { z with nx := .nilFunc } L (cc + 1) := by
  have H := Lib.hid h
  have q3 := h.mem.c3
  have HD := Lib.hid h.drew
  have hp := (Lay.parts_bd' h.ok).2.1
  obtain ⟨a, ha⟩ : ∃ a, a = z.se / 4294967296 := ⟨_, rfl⟩
  obtain ⟨l, hl⟩ : ∃ l, l = z.se % 4294967296 := ⟨_, rfl⟩
  obtain ⟨x, hx⟩ : ∃ x, x = z.se := ⟨_, rfl⟩
  have elo : low z.se = l := by unfold low; omega
  rw [elo] at hlo
  have ew : IntKind.u32.wrap (l + 1) = l + 1 := by rw [IntKind.wrap_u32]; exact Int.emod_eq_of_lt (by omega) (by omega)
  have HP := Lib.hid (show a * 4294967296 + (l + 1) = x + 1 by omega)
  have HB : Hid (swB L 2 x = false) := Lib.hid (by rw [hx]; exact hb)
  have HV : Hid (swv L 2 x (x + 1) = L) := Lib.hid (by unfold swv; rw [HB.out]; simp)
  have HRN := Lib.hid (show (0 ≤ a ∧ a ≤ 4294967295) ∧ 0 ≤ l + 1 ∧ l + 1 ≤ 4294967295 by omega)
  rw [← hx] at q3 y0
  have HX0 := Lib.hid y0
  have HA : Hid (a = x / 4294967296) := Lib.hid (by rw [hx]; exact ha)
  have HL : Hid (l = x % 4294967296) := Lib.hid (by rw [hx]; exact hl)
  have HXX := Lib.hid hx
  clear h ha hl elo hlo hb y0 hp hx
  go_enter Tryz.func128, Tryz.ntmps128
  go_wp2_with (first
    | (go_at_call 126; (with_reducible refine (split_any x HX0.out.1 HX0.out.2 _).mono ?_); rintro r w1 ⟨rfl, hb⟩; rw [← HA.out, ← HL.out]; have H1 := Lib.hid (H.out.step hb); have HD1 := Lib.hid (H.out.step hb).drew; clear hb)
    | fail)
  have q0 := H1.out.mem.c0
  have q3 := H1.out.mem.c3
  rw [← HXX.out] at q3
  have HQ1 : Hid (∀ w', Ss w0 w' X S D N c z L cc → w'.cell? ⟨X, 0, none⟩ = some (.pointer (some ⟨N, 0, none⟩)) ∧ w'.cell? ⟨X, 3, none⟩ = some (.int .u64 x)) := Lib.hid (fun w' k => by rw [HXX.out]; exact k.c03)
  have HQ2 : Hid (∀ w', Ss w0 w' X S D N c z L (cc + 1) → w'.cell? ⟨X, 0, none⟩ = some (.pointer (some ⟨N, 0, none⟩)) ∧ w'.cell? ⟨X, 3, none⟩ = some (.int .u64 x)) := Lib.hid (fun w' k => by rw [HXX.out]; exact k.c03)
  go_region_held3 (fun w' => w'.cell? ⟨X, 0, none⟩ = some (.pointer (some ⟨N, 0, none⟩)) ∧ w'.cell? ⟨X, 3, none⟩ = some (.int .u64 x))
    (first | (with_reducible exact HQ2.out _ H4.out) | (with_reducible exact HQ1.out _ H3.out) | (with_reducible exact HQ1.out _ H2.out) | (with_reducible exact HQ1.out _ HD1.out) | fail)
    (first
      | (go_at_call 62; (with_reducible refine (Lay.sweep_m HD1.out.ok N _ HD1.out.mp).mono ?_); rintro r w2 ⟨rfl, hb⟩; rw [sweep2]; have H2 := Lib.hid (HD1.out.step hb); clear hb)
      | (go_at_call 31; (with_reducible refine (pair_any a (l + 1) HRN.out.1.1 HRN.out.1.2 HRN.out.2.1 HRN.out.2.2 _).mono ?_); rintro r w3 ⟨rfl, hb⟩; rw [HP.out]; have H3 := Lib.hid (H2.out.step hb); clear hb)
      | (go_at_call 143; (with_reducible refine (swap_any 2 x (x + 1) _ H3.out.st h0 h1).mono ?_); rintro r w4 ⟨rfl, hk⟩; rw [HB.out]; rw [HV.out] at hk; have H4 := Lib.hid (H3.out.left hk); clear hk)
      | fail)
  all_goals
    go_wp2_with (first
      | (go_at_call 127; (with_reducible refine (finS H4.out).mono ?_); rintro r w7 ⟨rfl, hk⟩; have H7 := Lib.hid hk; clear hk)
      | fail)
    go_returns
    exact ⟨rfl, H7.out⟩
theorem min_is (a b : Int) : Lay.imin a b = wmin a b := by unfold Lay.imin wmin; split <;> (try split) <;> omega
set_option maxHeartbeats 4000000 in
theorem takePartS (h : Ss w0 w X S D N c z L cc) (h0 : 0 ≤ cc) (h1 : cc ≤ 1000000000) (y0 : 0 ≤ z.se ∧ z.se ≤ 18446744073709551615) (hlo : low z.se < partsC c) (hb : swB L 2 z.se = true) :
    Calls Tryz.prog 128 #[ptr X, ptr S] w fun e w' => e = .returned (.tuple #[]) ∧ Ss w0 w' X S D N c { z with pt := low z.se, v := low z.se * c.sw + 1, la := wmin ((low z.se + 1) * c.sw) (nodesN c), nx := nxS X (low z.se * c.sw + 1) (wmin ((low z.se + 1) * c.sw) (nodesN c)) } (ptq L 2 (z.se + 1)) (cc + 1) := by
  have H := Lib.hid h
  have q3 := h.mem.c3
  obtain ⟨hp0, hp, hp2⟩ := Lay.parts_bd' h.ok
  have hsw0 := h.ok.w0; have hsw1 := h.ok.w1
  have hn1 := (Lay.bds h.ok).n1
  obtain ⟨a, ha⟩ : ∃ a, a = z.se / 4294967296 := ⟨_, rfl⟩
  obtain ⟨l, hl⟩ : ∃ l, l = z.se % 4294967296 := ⟨_, rfl⟩
  obtain ⟨x, hx⟩ : ∃ x, x = z.se := ⟨_, rfl⟩
  have elo : low z.se = l := by unfold low; omega
  rw [elo] at hlo ⊢
  have l0 : 0 ≤ l := by omega
  have ew : IntKind.u32.wrap (l + 1) = l + 1 := by rw [IntKind.wrap_u32]; exact Int.emod_eq_of_lt (by omega) (by omega)
  have ew2 : IntKind.i64.wrap l = l := IntWalk.i64_in _ (by omega)
  obtain ⟨F, hF⟩ : ∃ F, F = l * c.sw + 1 := ⟨_, rfl⟩
  obtain ⟨T, hT⟩ : ∃ T, T = wmin ((l + 1) * c.sw) (nodesN c) := ⟨_, rfl⟩
  have HT2 : Hid (Lay.imin (l * c.sw + 1 + c.sw - 1) (nodesN c) = T) := Lib.hid (by rw [hT, min_is, show l * c.sw + 1 + c.sw - 1 = (l + 1) * c.sw by rw [Int.add_mul]; omega])
  rw [← hF, ← hT]
  have HF := Lib.hid hF
  have HP := Lib.hid (show a * 4294967296 + (l + 1) = x + 1 by omega)
  have HB : Hid (swB L 2 x = true) := Lib.hid (by rw [hx]; exact hb)
  have HV : Hid (swv L 2 x (x + 1) = ptq L 2 (x + 1)) := Lib.hid (by rw [swv_eq, if_pos ((swB_iff ..).1 HB.out)])
  have HRN := Lib.hid (show (0 ≤ a ∧ a ≤ 4294967295) ∧ 0 ≤ l + 1 ∧ l + 1 ≤ 4294967295 by omega)
  have HLP := Lib.hid (And.intro l0 hlo)
  rw [← hx] at q3 y0
  have HX0 := Lib.hid y0
  have HA : Hid (a = x / 4294967296) := Lib.hid (by rw [hx]; exact ha)
  have HL : Hid (l = x % 4294967296) := Lib.hid (by rw [hx]; exact hl)
  have HXX := Lib.hid hx
  obtain ⟨L', hL'⟩ : ∃ L', L' = ptq L 2 (x + 1) := ⟨_, rfl⟩
  rw [← hL'] at HV
  rw [show ptq L 2 (z.se + 1) = L' by rw [hL', hx]]
  clear h ha hl elo hlo hb y0 hp hp0 hp2 hx l0 hF hT hsw0 hsw1 hn1 hL'
  go_enter Tryz.func128, Tryz.ntmps128
  go_wp2_with (first
    | (go_at_call 126; (with_reducible refine (split_any x HX0.out.1 HX0.out.2 _).mono ?_); rintro r w1 ⟨rfl, hb⟩; rw [← HA.out, ← HL.out]; have H1 := Lib.hid (H.out.step hb); have HD1 := Lib.hid (H.out.step hb).drew; clear hb)
    | fail)
  have q0 := H1.out.mem.c0
  have q3 := H1.out.mem.c3
  rw [← HXX.out] at q3
  have HQ1 : Hid (∀ w', Ss w0 w' X S D N c z L cc → w'.cell? ⟨X, 0, none⟩ = some (.pointer (some ⟨N, 0, none⟩)) ∧ w'.cell? ⟨X, 3, none⟩ = some (.int .u64 x)) := Lib.hid (fun w' k => by rw [HXX.out]; exact k.c03)
  have HQ2 : Hid (∀ w', Ss w0 w' X S D N c z L' (cc + 1) → w'.cell? ⟨X, 0, none⟩ = some (.pointer (some ⟨N, 0, none⟩)) ∧ w'.cell? ⟨X, 3, none⟩ = some (.int .u64 x)) := Lib.hid (fun w' k => by rw [HXX.out]; exact k.c03)
  go_region_held3 (fun w' => w'.cell? ⟨X, 0, none⟩ = some (.pointer (some ⟨N, 0, none⟩)) ∧ w'.cell? ⟨X, 3, none⟩ = some (.int .u64 x))
    (first | (with_reducible exact HQ2.out _ H4.out) | (with_reducible exact HQ1.out _ H3.out) | (with_reducible exact HQ1.out _ H2.out) | (with_reducible exact HQ1.out _ HD1.out) | fail)
    (first
      | (go_at_call 62; (with_reducible refine (Lay.sweep_m HD1.out.ok N _ HD1.out.mp).mono ?_); rintro r w2 ⟨rfl, hb⟩; rw [sweep2]; have H2 := Lib.hid (HD1.out.step hb); clear hb)
      | (go_at_call 31; (with_reducible refine (pair_any a (l + 1) HRN.out.1.1 HRN.out.1.2 HRN.out.2.1 HRN.out.2.2 _).mono ?_); rintro r w3 ⟨rfl, hb⟩; rw [HP.out]; have H3 := Lib.hid (H2.out.step hb); clear hb)
      | (go_at_call 143; (with_reducible refine (swap_any 2 x (x + 1) _ H3.out.st h0 h1).mono ?_); rintro r w4 ⟨rfl, hk⟩; rw [HB.out]; rw [HV.out] at hk; have H4 := Lib.hid (H3.out.left hk); clear hk)
      | fail)
  clear q0 q3
  have q4 := H4.out.mem.c4; have f4 := H4.out.mem.f 4
  have H5 := Lib.hid (H4.out.p4 l)
  go_wp2_with (fail)
  have HD5 := Lib.hid H5.out.drew
  obtain ⟨r0, r4⟩ := H5.out.c04
  have HT3 := Lib.hid HT2.out
  go_region_held3 (fun w' => w'.cell? ⟨X, 0, none⟩ = some (.pointer (some ⟨N, 0, none⟩)) ∧ w'.cell? ⟨X, 4, none⟩ = some (.int .i64 l))
    (first | (with_reducible exact H8.out.c04) | (with_reducible exact H7.out.c04) | (with_reducible exact H6.out.c04) | (with_reducible exact HD5.out.c04) | fail)
    (first
      | (go_at_call 144; (with_reducible refine (Lay.part_yes HD5.out.ok N l HLP.out.1 HLP.out.2 _ HD5.out.mp).mono ?_); rintro r w6 ⟨rfl, hb⟩; rw [HT3.out, ← HF.out]; have H6 := Lib.hid (HD5.out.step hb); clear hb; have q5 := H6.out.mem.c5; have f5 := H6.out.mem.f 5; have H7 := Lib.hid (H6.out.p5 F); have q6 := H7.out.mem.c6; have f6 := H7.out.mem.f 6; have H8 := Lib.hid (H7.out.p6 T))
      | fail)
  all_goals
    go_wp2_with (first
      | (go_at_call 145; (with_reducible refine (goOnS H8.out).mono ?_); rintro r w9 ⟨rfl, hk⟩; have H9 := Lib.hid hk; clear hk)
      | fail)
    go_returns
    exact ⟨rfl, H9.out⟩
set_option maxHeartbeats 4000000 in
theorem seeStateS (h : Ss w0 w X S D N c z L cc) (h0 : 0 ≤ cc) (h1 : cc ≤ 1000000000) (v0 : 0 ≤ z.v) (v1 : z.v ≤ 1000000) :
    Calls Tryz.prog 164 #[ptr X, ptr S] w fun e w' => e = .returned (.tuple #[]) ∧ Ss w0 w' X S D N c (if ldq L (plcc c 15 z.v 0) = 1 then { z with nx := fns 181 X } else { z with v := z.v + 1, nx := nxS X (z.v + 1) z.la }) L (cc + 1) := by
  have hmf : ∀ (fn : Fn) (first cap : Array Value) (w : World), (Instr.makeFunc fn first cap).run Tryz.prog w = .ok (.func fn first cap) w := fun _ _ _ _ => rfl
  have HD := Lib.hid h.drew
  obtain ⟨q0, q5⟩ := h.c05
  obtain ⟨y, hy⟩ : ∃ y, y = ldq L (plcc c 15 z.v 0) := ⟨_, rfl⟩
  have HY : Hid (ldv L (plcc c 15 z.v 0) = y) := Lib.hid (by rw [hy]; exact ldv_eq _ _)
  rw [← hy]
  have HV := Lib.hid (And.intro v0 v1)
  have HWF : Hid ((Lit.int .i64 z.v).wf = true) := Lib.hid (Lay.wf_i64 (by omega) (by omega))
  clear h hy v0 v1
  by_cases hz : y = 1
  · rw [if_pos hz]
    subst hz
    go_enter Tryz.func164, Tryz.ntmps164
    go_wp2_with (fail)
    go_region_held3 (fun w' => w'.cell? ⟨X, 0, none⟩ = some (.pointer (some ⟨N, 0, none⟩)) ∧ w'.cell? ⟨X, 5, none⟩ = some (.int .i64 z.v))
      (first | (with_reducible exact H2.out.c05) | (with_reducible exact H1.out.c05) | (with_reducible exact HD.out.c05) | fail)
      (first
        | (go_at_call 47; (with_reducible refine (Lay.state_m HD.out.ok N _ HWF.out _ HD.out.mp).mono ?_); rintro r w1 ⟨rfl, hb⟩; have H1 := Lib.hid (HD.out.step hb); clear hb)
        | (go_at_call 25; (with_reducible refine (load_any _ _ H1.out.st h0 h1).mono ?_); rintro r w2 ⟨rfl, hk⟩; rw [HY.out]; have H2 := Lib.hid (H1.out.left hk); clear hk)
        | fail)
    have q2 := H2.out.mem.c2; have f2 := H2.out.mem.f 2
    have H3 := Lib.hid (H2.out.p2 (fns 181 X))
    go_wp2
    go_returns
    exact ⟨rfl, H3.out⟩
  · rw [if_neg hz]
    have d : (y != 1) = true := by simpa using hz
    clear hz
    go_enter Tryz.func164, Tryz.ntmps164
    go_wp2_with (fail)
    go_region_held3 (fun w' => w'.cell? ⟨X, 0, none⟩ = some (.pointer (some ⟨N, 0, none⟩)) ∧ w'.cell? ⟨X, 5, none⟩ = some (.int .i64 z.v))
      (first | (with_reducible exact H2.out.c05) | (with_reducible exact H1.out.c05) | (with_reducible exact HD.out.c05) | fail)
      (first
        | (go_at_call 47; (with_reducible refine (Lay.state_m HD.out.ok N _ HWF.out _ HD.out.mp).mono ?_); rintro r w1 ⟨rfl, hb⟩; have H1 := Lib.hid (HD.out.step hb); clear hb)
        | (go_at_call 25; (with_reducible refine (load_any _ _ H1.out.st h0 h1).mono ?_); rintro r w2 ⟨rfl, hk⟩; rw [HY.out]; have H2 := Lib.hid (H1.out.left hk); clear hk)
        | fail)
    go_wp2_with (first
      | (go_at_call 180; (with_reducible refine (passS H2.out HV.out.1 HV.out.2).mono ?_); rintro r w7 ⟨rfl, hk⟩; have H7 := Lib.hid hk; clear hk)
      | fail)
    go_returns
    exact ⟨rfl, H7.out⟩
set_option maxHeartbeats 4000000 in
theorem seeMarkS (h : Ss w0 w X S D N c z L cc) (h0 : 0 ≤ cc) (h1 : cc ≤ 1000000000) (v0 : 0 ≤ z.v) (v1 : z.v ≤ 1000000) :
    Calls Tryz.prog 181 #[ptr X, ptr S] w fun e w' => e = .returned (.tuple #[]) ∧ Ss w0 w' X S D N c (if ldq L (plcc c 16 z.v 0) < z.cy then { z with nx := fns 193 X } else { z with v := z.v + 1, nx := nxS X (z.v + 1) z.la }) L (cc + 1) := by
  have hmf : ∀ (fn : Fn) (first cap : Array Value) (w : World), (Instr.makeFunc fn first cap).run Tryz.prog w = .ok (.func fn first cap) w := fun _ _ _ _ => rfl
  have HD := Lib.hid h.drew
  obtain ⟨q0, q5, q1⟩ := h.c051
  obtain ⟨y, hy⟩ : ∃ y, y = ldq L (plcc c 16 z.v 0) := ⟨_, rfl⟩
  have HY : Hid (ldv L (plcc c 16 z.v 0) = y) := Lib.hid (by rw [hy]; exact ldv_eq _ _)
  rw [← hy]
  have HV := Lib.hid (And.intro v0 v1)
  have HWF : Hid ((Lit.int .i64 z.v).wf = true) := Lib.hid (Lay.wf_i64 (by omega) (by omega))
  obtain ⟨k, hk⟩ : ∃ k, k = z.cy := ⟨_, rfl⟩
  have HQ1 : Hid (∀ w' c1, Ss w0 w' X S D N c z L c1 → w'.cell? ⟨X, 0, none⟩ = some (.pointer (some ⟨N, 0, none⟩)) ∧ w'.cell? ⟨X, 5, none⟩ = some (.int .i64 z.v) ∧ w'.cell? ⟨X, 1, none⟩ = some (.int .u64 k)) := Lib.hid (fun w' c1 x => by rw [hk]; exact x.c051)
  rw [← hk] at q1
  have HK := Lib.hid hk
  clear h hy v0 v1 hk
  by_cases hz : y < k
  · rw [if_pos (by rw [← HK.out]; exact hz)]
    have d : decide (y ≥ k) = false := by simpa using hz
    clear hz
    go_enter Tryz.func181, Tryz.ntmps181
    go_wp2_with (fail)
    go_region_held3 (fun w' => w'.cell? ⟨X, 0, none⟩ = some (.pointer (some ⟨N, 0, none⟩)) ∧ w'.cell? ⟨X, 5, none⟩ = some (.int .i64 z.v) ∧ w'.cell? ⟨X, 1, none⟩ = some (.int .u64 k))
      (first | (with_reducible exact HQ1.out _ _ H2.out) | (with_reducible exact HQ1.out _ _ H1.out) | (with_reducible exact HQ1.out _ _ HD.out) | fail)
      (first
        | (go_at_call 27; (with_reducible refine (Lay.mark_m HD.out.ok N _ HWF.out _ HD.out.mp).mono ?_); rintro r w1 ⟨rfl, hb⟩; have H1 := Lib.hid (HD.out.step hb); clear hb)
        | (go_at_call 25; (with_reducible refine (load_any _ _ H1.out.st h0 h1).mono ?_); rintro r w2 ⟨rfl, hk⟩; rw [HY.out]; have H2 := Lib.hid (H1.out.left hk); clear hk)
        | fail)
    have q2 := H2.out.mem.c2; have f2 := H2.out.mem.f 2
    have H3 := Lib.hid (H2.out.p2 (fns 193 X))
    go_wp2
    go_returns
    exact ⟨rfl, H3.out⟩
  · rw [if_neg (by rw [← HK.out]; exact hz)]
    have d : decide (y ≥ k) = true := by simpa using hz
    clear hz
    go_enter Tryz.func181, Tryz.ntmps181
    go_wp2_with (fail)
    go_region_held3 (fun w' => w'.cell? ⟨X, 0, none⟩ = some (.pointer (some ⟨N, 0, none⟩)) ∧ w'.cell? ⟨X, 5, none⟩ = some (.int .i64 z.v) ∧ w'.cell? ⟨X, 1, none⟩ = some (.int .u64 k))
      (first | (with_reducible exact HQ1.out _ _ H2.out) | (with_reducible exact HQ1.out _ _ H1.out) | (with_reducible exact HQ1.out _ _ HD.out) | fail)
      (first
        | (go_at_call 27; (with_reducible refine (Lay.mark_m HD.out.ok N _ HWF.out _ HD.out.mp).mono ?_); rintro r w1 ⟨rfl, hb⟩; have H1 := Lib.hid (HD.out.step hb); clear hb)
        | (go_at_call 25; (with_reducible refine (load_any _ _ H1.out.st h0 h1).mono ?_); rintro r w2 ⟨rfl, hk⟩; rw [HY.out]; have H2 := Lib.hid (H1.out.left hk); clear hk)
        | fail)
    go_wp2_with (first
      | (go_at_call 180; (with_reducible refine (passS H2.out HV.out.1 HV.out.2).mono ?_); rintro r w7 ⟨rfl, hk⟩; have H7 := Lib.hid hk; clear hk)
      | fail)
    go_returns
    exact ⟨rfl, H7.out⟩
abbrev skN (c : Cfg) (k : Int) : Sk := ⟨plcc c 7 k 0, nxtL c⟩
abbrev lvN (N : Nat) : Value := .func (.func 51) #[Lay.mapP N] #[]
theorem lk_n {w : World} {N : Nat} {c : Cfg} (hc : OkC c) (hm : Lay.IsMap w N c) : Lk w (lvN N) N (nxtL c) := ⟨c, hc, hm, .inr ⟨rfl, rfl⟩⟩
set_option maxHeartbeats 8000000 in
theorem freeNodeS (h : Ss w0 w X S D N c z L cc) (h0 : 0 ≤ cc) (h1 : cc ≤ 1000000000) (v0 : 0 ≤ z.v) (v1 : z.v ≤ 1000000) (k0 : -10 ≤ kindV c z.v ∧ kindV c z.v ≤ 10) :
    Calls Tryz.prog 193 #[ptr X, ptr S] w fun e w' => e = .returned (.tuple #[]) ∧ ∃ M, MM w' M (lvN N) (mPush (skN c (kindV c z.v)) z.v) ∧ w.heap.size ≤ M ∧ Ss w0 w' X S D N c { z with nx := fns 203 X, pp := some ⟨M, 0, none⟩, ek := 5, ea := z.v } (ptq L (plcc c 15 z.v 0) 0) (cc + 1) := by
  have hmf : ∀ (fn : Fn) (first cap : Array Value) (w : World), (Instr.makeFunc fn first cap).run Tryz.prog w = .ok (.func fn first cap) w := fun _ _ _ _ => rfl
  have HD := Lib.hid h.drew
  obtain ⟨q0, q5⟩ := h.c05
  obtain ⟨L', hL'⟩ : ∃ L', L' = ptq L (plcc c 15 z.v 0) 0 := ⟨_, rfl⟩
  have HY : Hid (ptv L (plcc c 15 z.v 0) 0 = L') := Lib.hid (by rw [hL']; exact ptv_eq _ _ _)
  rw [← hL']
  have HV := Lib.hid (And.intro v0 v1)
  have HWF : Hid ((Lit.int .i64 z.v).wf = true) := Lib.hid (Lay.wf_i64 (by omega) (by omega))
  obtain ⟨kd, hkd⟩ : ∃ kd, kd = kindV c z.v := ⟨_, rfl⟩
  rw [← hkd] at k0 ⊢
  have HKD := Lib.hid hkd.symm
  have HKW : Hid ((Lit.int .i64 kd).wf = true) := Lib.hid (Lay.wf_i64 (by omega) (by omega))
  have HVR : Hid (-9223372036854775808 ≤ z.v ∧ z.v ≤ 9223372036854775807) := Lib.hid (by omega)
  clear h hL' v0 v1 k0 hkd
  go_enter Tryz.func193, Tryz.ntmps193
  go_wp2_with (fail)
  go_region_held3 (fun w' => w'.cell? ⟨X, 0, none⟩ = some (.pointer (some ⟨N, 0, none⟩)) ∧ w'.cell? ⟨X, 5, none⟩ = some (.int .i64 z.v))
    (first | (with_reducible exact H2.out.c05) | (with_reducible exact H1.out.c05) | (with_reducible exact HD.out.c05) | fail)
    (first
      | (go_at_call 47; (with_reducible refine (Lay.state_m HD.out.ok N _ HWF.out _ HD.out.mp).mono ?_); rintro r w1 ⟨rfl, hb⟩; have H1 := Lib.hid (HD.out.step hb); have HS1 := Lib.hid (show w.heap.size ≤ w1.heap.size from hb.size); clear hb)
      | (go_at_call 23; (with_reducible refine (put_any _ _ _ H1.out.st h0 h1).mono ?_); rintro r w2 ⟨rfl, hk⟩; rw [HY.out] at hk; have H2 := Lib.hid (H1.out.left hk); have HS2 := Lib.hid (Nat.le_trans HS1.out hk.2.size); clear hk)
      | fail)
  clear q0 q5
  have q5 := H2.out.mem.c5
  obtain ⟨⟨e0, e1, e2⟩, e3, e4⟩ := H2.out.mem.ev; obtain ⟨⟨g0, g1, g2⟩, g3, g4⟩ := H2.out.mem.evf
  go_upto_region 2 with (fail)
  have h3 := H2.out.pev 5 z.v
  obtain ⟨W, hW⟩ : ∃ W, W = evS w2 X 5 z.v := ⟨_, rfl⟩
  rw [← hW] at h3
  have HS3 : Hid (w.heap.size ≤ W.heap.size) := Lib.hid (by rw [hW]; exact Nat.le_trans HS2.out (UF.evS w2 X 5 z.v).size)
  unfold evS at hW
  rw [← hW]
  have H3 := Lib.hid h3
  clear hW h3 q5 e0 e1 e2 e3 e4 g0 g1 g2 g3 g4
  obtain ⟨r0, r5⟩ := H3.out.c05
  have HDD := Lib.hid H3.out.drew
  go_region_held3 (fun w' => w'.cell? ⟨X, 0, none⟩ = some (.pointer (some ⟨N, 0, none⟩)) ∧ w'.cell? ⟨X, 5, none⟩ = some (.int .i64 z.v))
    (first | (with_reducible exact H7.out.c05) | (with_reducible exact H6.out.c05) | (with_reducible exact H5.out.c05) | (with_reducible exact H4.out.c05) | (with_reducible exact HDD.out.c05) | fail)
    (first
      | (go_at_call 66; (with_reducible refine (Lay.class_m N z.v _ HDD.out.mp).mono ?_); rintro r w4 ⟨rfl, hb⟩; rw [HKD.out]; have H4 := Lib.hid (HDD.out.step hb); have HS4 := Lib.hid (show W.heap.size ≤ w4.heap.size from hb.size); clear hb)
      | (go_at_call 50; (with_reducible refine (Lay.head_m H4.out.ok N kd HKW.out _ H4.out.mp).mono ?_); rintro r w5 ⟨rfl, hb⟩; have H5 := Lib.hid (H4.out.step hb); have HS5 := Lib.hid (Nat.le_trans HS4.out hb.size); clear hb)
      | (go_at_call 151; (with_reducible refine (push_any ⟨plcc c 7 kd 0, nxtL c⟩ z.v _ (lk_n H5.out.ok H5.out.mp) HVR.out).mono ?_); rintro r w6 ⟨M, rfl, hM, hm, hb⟩; have H6 := Lib.hid (H5.out.step hb); have HMM := Lib.hid hm; have HML := Lib.hid hM; have HXL := Lib.hid H5.out.mem.lt; clear hb hm hM; have q7 := H6.out.mem.c7; have f7 := H6.out.mem.f 7; have H7 := Lib.hid (H6.out.p7 (some ⟨M, 0, none⟩)))
      | fail)
  all_goals
    have q2 := H6.out.mem.c2; have f2 := H6.out.mem.f 2
    have q2' := H7.out.mem.c2; have f2' := H7.out.mem.f 2
    have H8 := Lib.hid (H7.out.p2 (fns 203 X))
    go_wp2
    go_returns
    have hne : M ≠ X := by have := HML.out; have := HXL.out; omega
    refine ⟨rfl, M, ?_, Nat.le_trans HS3.out (Nat.le_trans HS5.out HML.out), H8.out⟩
    exact (heap_setCell_other _ ⟨X, 2, none⟩ M _ hne).trans ((heap_setCell_other w6 ⟨X, 7, none⟩ M _ hne).trans HMM.out)
set_option maxHeartbeats 1000000 in
theorem push_on (h : Sb w X (some ⟨N, 0, none⟩) z) (hp : z.pp = some ⟨M, 0, none⟩) (Q : World → Prop)
    (HS : Calls Tryz.prog 209 #[ptr M, ptr S] w fun e w' => e = .returned (.bool false) ∧ Q w') :
    Calls Tryz.prog 203 #[ptr X, ptr S] w fun e w' => e = .returned (.tuple #[]) ∧ Q w' := by
  have q7 := h.c7
  rw [hp] at q7
  have HH := Lib.hid HS
  clear h hp HS
  go_enter Tryz.func203, Tryz.ntmps203
  go_wp2_with (first
    | (go_at_call 209; (with_reducible refine HH.out.mono ?_); rintro r w1 ⟨rfl, hq⟩; have HQ := Lib.hid hq; clear hq)
    | fail)
  go_returns
  exact ⟨rfl, HQ.out⟩
set_option maxHeartbeats 1000000 in
theorem push_end (h : Sb w X (some ⟨N, 0, none⟩) z) (hp : z.pp = some ⟨M, 0, none⟩) (v0 : 0 ≤ z.v) (v1 : z.v ≤ 1000000) (Q : World → Prop)
    (HS : Calls Tryz.prog 209 #[ptr M, ptr S] w fun e w' => e = .returned (.bool true) ∧ Q w') (HQ : ∀ w1, Q w1 → Ss w1 w1 X S D N c z L cc) :
    Calls Tryz.prog 203 #[ptr X, ptr S] w fun e w' => e = .returned (.tuple #[]) ∧ ∃ w1, Q w1 ∧ Ss w1 w' X S D N c { z with v := z.v + 1, nx := nxS X (z.v + 1) z.la } L cc := by
  have q7 := h.c7
  rw [hp] at q7
  have HH := Lib.hid HS; have HQQ := Lib.hid HQ; have HV := Lib.hid (And.intro v0 v1)
  clear h hp HS HQ v0 v1
  go_enter Tryz.func203, Tryz.ntmps203
  go_wp2_with (first
    | (go_at_call 209; (with_reducible refine HH.out.mono ?_); rintro r w1 ⟨rfl, hq⟩; have HQ := Lib.hid hq; have H1 := Lib.hid (HQQ.out w1 hq); clear hq)
    | (go_at_call 180; (with_reducible refine (passS H1.out HV.out.1 HV.out.2).mono ?_); rintro r w7 ⟨rfl, hk⟩; have H7 := Lib.hid hk; clear hk)
    | fail)
  go_returns
  exact ⟨rfl, w1, HQ.out, H7.out⟩
end
end Go.Proofs.YthoiaffeenhfgaaGreat
