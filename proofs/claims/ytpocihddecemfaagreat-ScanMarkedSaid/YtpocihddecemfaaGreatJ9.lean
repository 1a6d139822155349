/- The map's methods, walked: each tells the document's place. A part's first and last node, and a thing's place by its kind, walked. A thing's place by its kind and numbers, walked. Things linked one behind the other: stacked, walked, for nodes and for packets. -/
import Derived.Test.YtpocihddecemfaaGreatJ5
namespace Go.Proofs.YtpocihddecemfaaGreat.Lay
open Go.RowKit
set_option linter.unusedVariables false

theorem wf_i64 {v : Int} (h0 : -9223372036854775808 ≤ v) (h1 : v ≤ 9223372036854775807) : (Lit.int .i64 v).wf = true := by
  simp [Lit.wf, IntKind.min, IntKind.max, IntKind.signed, IntKind.bits]; omega

theorem cells5 {w : World} {N : Nat} {c : Cfg} (h : IsMap w N c) : w.cell? ⟨N, 0, none⟩ = some (.int .i64 c.a) ∧ w.cell? ⟨N, 1, none⟩ = some (.int .i64 c.b) ∧ w.cell? ⟨N, 2, none⟩ = some (.int .i64 c.c) ∧ w.cell? ⟨N, 3, none⟩ = some (.int .i64 c.d) ∧ w.cell? ⟨N, 4, none⟩ = some (.int .i64 c.e) :=
  ⟨h.2 0 (by omega), h.2 1 (by omega), h.2 2 (by omega), h.2 3 (by omega), h.2 4 (by omega)⟩
theorem cells7 {w : World} {N : Nat} {c : Cfg} (h : IsMap w N c) : w.cell? ⟨N, 5, none⟩ = some (.int .i64 c.mr) ∧ w.cell? ⟨N, 6, none⟩ = some (.int .i64 c.mu) ∧ w.cell? ⟨N, 7, none⟩ = some (.int .i64 c.dq) ∧ w.cell? ⟨N, 8, none⟩ = some (.int .i64 c.ch) ∧ w.cell? ⟨N, 9, none⟩ = some (.int .i64 c.bf) ∧ w.cell? ⟨N, 10, none⟩ = some (.int .i64 c.rt) ∧ w.cell? ⟨N, 11, none⟩ = some (.int .i64 c.sw) :=
  ⟨h.2 5 (by omega), h.2 6 (by omega), h.2 7 (by omega), h.2 8 (by omega), h.2 9 (by omega), h.2 10 (by omega), h.2 11 (by omega)⟩

theorem class_m {c : Cfg} (N : Nat) (v : Int) (w : World) (hm : IsMap w N c) : Calls Tryz.prog 63 #[mapP N, .int .i64 v] w fun e w' => e = .returned (.int .i64 (kindV c v)) ∧ Below w.heap.size w w' := by
  obtain ⟨r0, r1, r2, r3, r4⟩ := cells5 hm
  clear hm
  go_enter Tryz.func63, Tryz.ntmps63
  go_wp2_with (first
    | (go_at_call 62; (with_reducible refine (laid_any _ _).mono ?_); rintro r w1 ⟨rfl, rfl⟩)
    | (go_at_call 97; (with_reducible refine (class_any _ _ _ _ _ _ _).mono ?_); rintro r w1 ⟨rfl, hb1⟩))
  go_ret
  exact ⟨rfl, hb1⟩
theorem class_is {c : Cfg} (N : Nat) (v k : Int) (hk : kindV c v = k) (w : World) (hm : IsMap w N c) : Calls Tryz.prog 63 #[mapP N, .int .i64 v] w fun e w' => e = .returned (.int .i64 k) ∧ Below w.heap.size w w' := by
  subst hk; exact class_m N v w hm
theorem room_m {c : Cfg} (N : Nat) (v : Int) (w : World) (hm : IsMap w N c) : Calls Tryz.prog 25 #[mapP N, .int .i64 v] w fun e w' => e = .returned (.int .i64 (slotsOf (kindV c v))) ∧ Below w.heap.size w w' := by
  have HM := Lib.hid hm; clear hm
  go_enter Tryz.func25, Tryz.ntmps25
  go_wp2_with (first
    | (go_at_call 63; (with_reducible refine (class_m _ _ _ HM.out).mono ?_); rintro r w1 ⟨rfl, hb1⟩)
    | (go_at_call 39; (with_reducible refine (slots_any _ _).mono ?_); rintro r w2 ⟨rfl, rfl⟩))
  go_ret
  exact ⟨rfl, hb1⟩
theorem nodes_m {c : Cfg} (hc : OkC c) (N : Nat) (w : World) (hm : IsMap w N c) : Calls Tryz.prog 24 #[mapP N] w fun e w' => e = .returned (.int .i64 (nodesN c)) ∧ Below w.heap.size w w' := by
  obtain ⟨r0, r1, r2, r3, r4⟩ := cells5 hm
  have H := Lib.hid hc
  clear hm hc
  go_enter Tryz.func24, Tryz.ntmps24
  go_wp2_with (first
    | (go_at_call 62; (with_reducible refine (laid_any _ _).mono ?_); rintro r w1 ⟨rfl, rfl⟩)
    | (go_at_call 61; (with_reducible refine (nodes_ok H.out _).mono ?_); rintro r w1 ⟨rfl, hb1⟩))
  go_ret
  exact ⟨rfl, hb1⟩
theorem common_m {c : Cfg} (hc : OkC c) (N : Nat) (w : World) (hm : IsMap w N c) : Calls Tryz.prog 67 #[mapP N] w fun e w' => e = .returned (.int .i64 (nodesN c)) ∧ Below w.heap.size w w' := by
  have H := Lib.hid hc; have HM := Lib.hid hm
  clear hm hc
  go_enter Tryz.func67, Tryz.ntmps67
  go_wp2_with (first
    | (go_at_call 24; (with_reducible refine (nodes_m H.out _ _ HM.out).mono ?_); rintro r w1 ⟨rfl, hb1⟩)
    | fail)
  go_ret
  exact ⟨rfl, hb1⟩
theorem packets_m {c : Cfg} (N : Nat) (w : World) (hm : IsMap w N c) : Calls Tryz.prog 74 #[mapP N] w fun e w' => e = .returned (.int .i64 (packN c)) ∧ Below w.heap.size w w' := by
  obtain ⟨r0, r1, r2, r3, r4⟩ := row32 hm
  clear hm
  go_enter Tryz.func74, Tryz.ntmps74
  go_wp2_with (first
    | (go_at_call 62; (with_reducible refine (laid_any _ _).mono ?_); rintro r w1 ⟨rfl, rfl⟩)
    | fail)
  go_ret
  exact ⟨rfl, Below.refl _ _⟩
def partsC (c : Cfg) : Int := piecesOf (nodesN c) c.sw
theorem len_m {c : Cfg} (hc : OkC c) (N : Nat) (w : World) (hm : IsMap w N c) : Calls Tryz.prog 66 #[mapP N] w fun e w' => e = .returned (.int .i64 (at55 c)) ∧ Below w.heap.size w w' := by
  obtain ⟨r0, r1, r2, r3, r4⟩ := row57 hm
  have HK := Lib.hid (ok57 hc)
  have X : endL (at54 c) c.e 4 16 = at55 c := by simp [endL, at55]
  have HX := Lib.hid X
  clear hm hc X
  go_enter Tryz.func66, Tryz.ntmps66
  go_wp2_with (first
    | (go_at_call 62; (with_reducible refine (laid_any _ _).mono ?_); rintro r w1 ⟨rfl, rfl⟩)
    | (go_at_call 77; (with_reducible refine (end_any HK.out _).mono ?_); rintro r w1 ⟨rfl, hb1⟩; rw [HX.out]))
  go_ret
  exact ⟨rfl, hb1⟩
theorem config_m {c : Cfg} (N : Nat) (w : World) (hm : IsMap w N c) : Calls Tryz.prog 81 #[mapP N] w fun e w' => e = .returned (cfgV c) ∧ Below w.heap.size w w' := by
  have hm2 := hm.alloc (.cells #[.int .i64 0, .int .i64 0, .int .i64 0, .int .i64 0, .int .i64 0, .int .i64 0, .int .i64 0, .int .i64 0, .int .i64 0, .int .i64 0, .int .i64 0, .int .i64 0] 24)
  obtain ⟨r0, r1, r2, r3, r4⟩ := cells5 hm
  obtain ⟨r5, r6, r7, r8, r9, r10, r11⟩ := cells7 hm
  have hlt := hm.1
  have HB := Below.refl w.heap.size w
  clear hm hm2
  go_enter Tryz.func81, Tryz.ntmps81
  go_wp2_with (first
    | (go_at_call 62; (with_reducible refine (laid_any _ _).mono ?_); rintro r w1 ⟨rfl, rfl⟩)
    | (go_at_call 100; (with_reducible refine (config_any c _).mono ?_); rintro r w1 ⟨rfl, hb1⟩; obtain ⟨hcc, hff⟩ := bcell hb1))
  have HB1 := below_step (below_alloc0 HB _) (by simp) hb1
  have hz := hb1.size
  refine bodyPost_ret (v := cfgV c) (by simp [results, Tryz.results81, go_sem, hcc]) rfl ⟨rfl, ?_⟩
  go_grown
theorem laid_nil (w : World) : Calls Tryz.prog 62 #[.pointer none] w fun e w' => ∃ M, e = .returned (mapP M) ∧ (w'.cell? ⟨M, 0, none⟩ = some (.int .i64 0) ∧ w'.cell? ⟨M, 1, none⟩ = some (.int .i64 0) ∧ w'.cell? ⟨M, 2, none⟩ = some (.int .i64 0) ∧ w'.cell? ⟨M, 3, none⟩ = some (.int .i64 0) ∧ w'.cell? ⟨M, 4, none⟩ = some (.int .i64 0) ∧ w'.cell? ⟨M, 5, none⟩ = some (.int .i64 0) ∧ w'.cell? ⟨M, 6, none⟩ = some (.int .i64 0) ∧ w'.cell? ⟨M, 7, none⟩ = some (.int .i64 0) ∧ w'.cell? ⟨M, 8, none⟩ = some (.int .i64 0) ∧ w'.cell? ⟨M, 9, none⟩ = some (.int .i64 0) ∧ w'.cell? ⟨M, 10, none⟩ = some (.int .i64 0) ∧ w'.cell? ⟨M, 11, none⟩ = some (.int .i64 0)) ∧ Below w.heap.size w w' := by
  go_enter Tryz.func62, Tryz.ntmps62
  go_wp2
  go_ret
  refine ⟨_, rfl, ?_, (Below.refl _ _).alloc (Nat.le_refl _) _⟩
  refine ⟨?_, ?_, ?_, ?_, ?_, ?_, ?_, ?_, ?_, ?_, ?_, ?_⟩
  all_goals (rw [World.cell?_alloc_at _ _ _ _ rfl]; rfl)
def zeroC : Cfg := ⟨0, 0, 0, 0, 0, 0, 0, 0, 0, 0, 0, 0⟩
abbrev zeroV : Value := .agg #[.int .i64 0, .int .i64 0, .int .i64 0, .int .i64 0, .int .i64 0, .int .i64 0, .int .i64 0, .int .i64 0, .int .i64 0, .int .i64 0, .int .i64 0, .int .i64 0]
theorem config_zero (w : World) : Calls Tryz.prog 100 #[zeroV] w fun r w' => r = .returned zeroV ∧ Below w.heap.size w w' := config_any zeroC w
theorem config_nil (w : World) : Calls Tryz.prog 81 #[.pointer none] w fun e w' => e = .returned zeroV ∧ Below w.heap.size w w' := by
  have HB := Below.refl w.heap.size w
  go_enter Tryz.func81, Tryz.ntmps81
  go_wp2_with (first
    | (go_at_call 62; (with_reducible refine (laid_nil _).mono ?_); rintro r w1 ⟨M, rfl, hM, hb1⟩; obtain ⟨hcc, hff⟩ := bcell hb1; obtain ⟨r0, r1, r2, r3, r4, r5, r6, r7, r8, r9, r10, r11⟩ := hM; have hz1 := hb1.size; have hy1 : w.heap.size < w1.heap.size := (by simp at hz1; omega))
    | (go_at_call 100; (with_reducible refine (config_zero _).mono ?_); rintro r w2 ⟨rfl, hb2⟩; obtain ⟨hcc2, hff2⟩ := bcell hb2))
  have HB1 := below_step (below_alloc0 HB _) (by simp) hb1
  have HB2 := below_step HB1 HB1.size hb2
  have hz := hb1.size
  have hz2 := hb2.size
  refine bodyPost_ret (v := zeroV) (by simp [results, Tryz.results81, go_sem, hcc2, hcc, hy1]) rfl ⟨rfl, ?_⟩
  go_grown

theorem node_ok {c : Cfg} (h : OkC c) (v : Int) : RowOk (rA c (kindV c v)) (rF c (kindV c v)) (rM c (kindV c v)) (rW (kindV c v)) (slotsOf (kindV c v)) := by
  rcases kindV_cases h v with ⟨hk, _⟩ | ⟨hk, _⟩ | ⟨hk, _⟩ | ⟨hk, _⟩ | ⟨hk, _⟩ | ⟨hk, _⟩
  · rw [hk]; show RowOk 0 0 0 0 0; exact ⟨by decide, by decide, by decide, by decide, by decide, by decide, by decide, by decide, by decide, by decide⟩
  · rw [hk]; exact ok37 h
  · rw [hk]; exact ok42 h
  · rw [hk]; exact ok47 h
  · rw [hk]; exact ok52 h
  · rw [hk]; exact ok57 h

set_option maxHeartbeats 2000000 in
theorem rowOf_m {c : Cfg} (hc : OkC c) (N : Nat) (v : Int) (w : World) (hm : IsMap w N c) : Calls Tryz.prog 59 #[mapP N, .int .i64 v] w fun e w' => e = .returned (rowV (rA c (kindV c v)) (rF c (kindV c v)) (rM c (kindV c v)) (rW (kindV c v)) (slotsOf (kindV c v))) ∧ Below w.heap.size w w' := by
  have hm2 := hm.alloc (.cells #[.int .i64 0, .int .i64 0, .int .i64 0, .int .i64 0, .int .i64 0] 92)
  have HM := Lib.hid hm2
  have HB := Below.refl w.heap.size w
  have hk6 : kindV c v = -1 ∨ kindV c v = 0 ∨ kindV c v = 1 ∨ kindV c v = 2 ∨ kindV c v = 3 ∨ kindV c v = 4 := by
    rcases kindV_cases hc v with ⟨hk, _⟩ | ⟨hk, _⟩ | ⟨hk, _⟩ | ⟨hk, _⟩ | ⟨hk, _⟩ | ⟨hk, _⟩ <;> omega
  clear hm hm2
  rcases hk6 with hk | hk | hk | hk | hk | hk
  · rw [hk]
    show Calls _ _ _ _ fun e w' => e = .returned (rowV 0 0 0 0 0) ∧ _
    have HK := Lib.hid hk
    clear hk
    go_enter Tryz.func59, Tryz.ntmps59
    go_wp2_with (first
      | (go_at_call 63; (with_reducible refine (class_is _ _ _ HK.out _ HM.out).mono ?_); rintro r w1 ⟨rfl, hb1⟩; obtain ⟨hcc, hff⟩ := bcell hb1)
      | fail)
    have HB1 := below_step (below_alloc0 HB _) (by simp) hb1
    have hz := hb1.size
    refine bodyPost_ret (v := rowV 0 0 0 0 0) (by simp [results, Tryz.results59, go_sem, hcc]) rfl ⟨rfl, ?_⟩
    go_grown
  · rw [hk]
    show Calls _ _ _ _ fun e w' => e = .returned (rowV (at50 c) 1 c.a 4 1) ∧ _
    have HK := Lib.hid hk
    clear hk
    go_enter Tryz.func59, Tryz.ntmps59
    go_wp2_with (first
      | (go_at_call 63; (with_reducible refine (class_is _ _ _ HK.out _ HM.out).mono ?_); rintro r w1 ⟨rfl, hb1⟩; obtain ⟨hcc, hff⟩ := bcell hb1; obtain ⟨r0, r1, r2, r3, r4⟩ := row37 (HM.out.below hb1))
      | fail)
    have HB1 := below_step (below_alloc0 HB _) (by simp) hb1
    have hz := hb1.size
    refine bodyPost_ret (v := rowV (at50 c) 1 c.a 4 1) (by simp [results, Tryz.results59, go_sem, hcc]) rfl ⟨rfl, ?_⟩
    go_grown
  · rw [hk]
    show Calls _ _ _ _ fun e w' => e = .returned (rowV (at51 c) (1 + c.a) c.b 4 2) ∧ _
    have HK := Lib.hid hk
    clear hk
    go_enter Tryz.func59, Tryz.ntmps59
    go_wp2_with (first
      | (go_at_call 63; (with_reducible refine (class_is _ _ _ HK.out _ HM.out).mono ?_); rintro r w1 ⟨rfl, hb1⟩; obtain ⟨hcc, hff⟩ := bcell hb1; obtain ⟨r0, r1, r2, r3, r4⟩ := row42 (HM.out.below hb1))
      | fail)
    have HB1 := below_step (below_alloc0 HB _) (by simp) hb1
    have hz := hb1.size
    refine bodyPost_ret (v := rowV (at51 c) (1 + c.a) c.b 4 2) (by simp [results, Tryz.results59, go_sem, hcc]) rfl ⟨rfl, ?_⟩
    go_grown
  · rw [hk]
    show Calls _ _ _ _ fun e w' => e = .returned (rowV (at52 c) (1 + c.a + c.b) c.c 4 4) ∧ _
    have HK := Lib.hid hk
    clear hk
    go_enter Tryz.func59, Tryz.ntmps59
    go_wp2_with (first
      | (go_at_call 63; (with_reducible refine (class_is _ _ _ HK.out _ HM.out).mono ?_); rintro r w1 ⟨rfl, hb1⟩; obtain ⟨hcc, hff⟩ := bcell hb1; obtain ⟨r0, r1, r2, r3, r4⟩ := row47 (HM.out.below hb1))
      | fail)
    have HB1 := below_step (below_alloc0 HB _) (by simp) hb1
    have hz := hb1.size
    refine bodyPost_ret (v := rowV (at52 c) (1 + c.a + c.b) c.c 4 4) (by simp [results, Tryz.results59, go_sem, hcc]) rfl ⟨rfl, ?_⟩
    go_grown
  · rw [hk]
    show Calls _ _ _ _ fun e w' => e = .returned (rowV (at53 c) (1 + c.a + c.b + c.c) c.d 4 8) ∧ _
    have HK := Lib.hid hk
    clear hk
    go_enter Tryz.func59, Tryz.ntmps59
    go_wp2_with (first
      | (go_at_call 63; (with_reducible refine (class_is _ _ _ HK.out _ HM.out).mono ?_); rintro r w1 ⟨rfl, hb1⟩; obtain ⟨hcc, hff⟩ := bcell hb1; obtain ⟨r0, r1, r2, r3, r4⟩ := row52 (HM.out.below hb1))
      | fail)
    have HB1 := below_step (below_alloc0 HB _) (by simp) hb1
    have hz := hb1.size
    refine bodyPost_ret (v := rowV (at53 c) (1 + c.a + c.b + c.c) c.d 4 8) (by simp [results, Tryz.results59, go_sem, hcc]) rfl ⟨rfl, ?_⟩
    go_grown
  · rw [hk]
    show Calls _ _ _ _ fun e w' => e = .returned (rowV (at54 c) (1 + c.a + c.b + c.c + c.d) c.e 4 16) ∧ _
    have HK := Lib.hid hk
    clear hk
    go_enter Tryz.func59, Tryz.ntmps59
    go_wp2_with (first
      | (go_at_call 63; (with_reducible refine (class_is _ _ _ HK.out _ HM.out).mono ?_); rintro r w1 ⟨rfl, hb1⟩; obtain ⟨hcc, hff⟩ := bcell hb1; obtain ⟨r0, r1, r2, r3, r4⟩ := row57 (HM.out.below hb1))
      | fail)
    have HB1 := below_step (below_alloc0 HB _) (by simp) hb1
    have hz := hb1.size
    refine bodyPost_ret (v := rowV (at54 c) (1 + c.a + c.b + c.c + c.d) c.e 4 16) (by simp [results, Tryz.results59, go_sem, hcc]) rfl ⟨rfl, ?_⟩
    go_grown

theorem header_m {c : Cfg} (hc : OkC c) (N : Nat) (v : Int) (hv : (Lit.int .i64 v).wf = true) (w : World) (hm : IsMap w N c) : Calls Tryz.prog 26 #[mapP N, .int .i64 v] w fun e w' => e = .returned (.int .i64 (plcc c 14 v 0)) ∧ Below w.heap.size w w' := by
  have H := Lib.hid hc; have HM := Lib.hid hm; have HV := Lib.hid hv; have HO := Lib.hid (node_ok hc v)
  rw [← show wordL _ _ _ _ _ v 0 = plcc c 14 v 0 from plc_node hc v 0 (by decide) (by decide)]
  clear hc hm hv
  go_enter Tryz.func26, Tryz.ntmps26
  go_wp2_with (first
    | (go_at_call 59; (with_reducible refine (rowOf_m H.out _ _ _ HM.out).mono ?_); rintro r w1 ⟨rfl, hb1⟩)
    | (go_at_call 60; (with_reducible refine (word_any _ _ HO.out HV.out (by decide) _).mono ?_); rintro r w2 ⟨rfl, hb2⟩))
  go_ret
  exact ⟨rfl, below_then hb1 hb2⟩

theorem state_m {c : Cfg} (hc : OkC c) (N : Nat) (v : Int) (hv : (Lit.int .i64 v).wf = true) (w : World) (hm : IsMap w N c) : Calls Tryz.prog 68 #[mapP N, .int .i64 v] w fun e w' => e = .returned (.int .i64 (plcc c 15 v 0)) ∧ Below w.heap.size w w' := by
  have H := Lib.hid hc; have HM := Lib.hid hm; have HV := Lib.hid hv; have HO := Lib.hid (node_ok hc v)
  rw [← show wordL _ _ _ _ _ v 1 = plcc c 15 v 0 from plc_node hc v 1 (by decide) (by decide)]
  clear hc hm hv
  go_enter Tryz.func68, Tryz.ntmps68
  go_wp2_with (first
    | (go_at_call 59; (with_reducible refine (rowOf_m H.out _ _ _ HM.out).mono ?_); rintro r w1 ⟨rfl, hb1⟩)
    | (go_at_call 60; (with_reducible refine (word_any _ _ HO.out HV.out (by decide) _).mono ?_); rintro r w2 ⟨rfl, hb2⟩))
  go_ret
  exact ⟨rfl, below_then hb1 hb2⟩

theorem mark_m {c : Cfg} (hc : OkC c) (N : Nat) (v : Int) (hv : (Lit.int .i64 v).wf = true) (w : World) (hm : IsMap w N c) : Calls Tryz.prog 23 #[mapP N, .int .i64 v] w fun e w' => e = .returned (.int .i64 (plcc c 16 v 0)) ∧ Below w.heap.size w w' := by
  have H := Lib.hid hc; have HM := Lib.hid hm; have HV := Lib.hid hv; have HO := Lib.hid (node_ok hc v)
  rw [← show wordL _ _ _ _ _ v 2 = plcc c 16 v 0 from plc_node hc v 2 (by decide) (by decide)]
  clear hc hm hv
  go_enter Tryz.func23, Tryz.ntmps23
  go_wp2_with (first
    | (go_at_call 59; (with_reducible refine (rowOf_m H.out _ _ _ HM.out).mono ?_); rintro r w1 ⟨rfl, hb1⟩)
    | (go_at_call 60; (with_reducible refine (word_any _ _ HO.out HV.out (by decide) _).mono ?_); rintro r w2 ⟨rfl, hb2⟩))
  go_ret
  exact ⟨rfl, below_then hb1 hb2⟩

theorem next_m {c : Cfg} (hc : OkC c) (N : Nat) (v : Int) (hv : (Lit.int .i64 v).wf = true) (w : World) (hm : IsMap w N c) : Calls Tryz.prog 71 #[mapP N, .int .i64 v] w fun e w' => e = .returned (.int .i64 (plcc c 17 v 0)) ∧ Below w.heap.size w w' := by
  have H := Lib.hid hc; have HM := Lib.hid hm; have HV := Lib.hid hv; have HO := Lib.hid (node_ok hc v)
  rw [← show wordL _ _ _ _ _ v 3 = plcc c 17 v 0 from plc_node hc v 3 (by decide) (by decide)]
  clear hc hm hv
  go_enter Tryz.func71, Tryz.ntmps71
  go_wp2_with (first
    | (go_at_call 59; (with_reducible refine (rowOf_m H.out _ _ _ HM.out).mono ?_); rintro r w1 ⟨rfl, hb1⟩)
    | (go_at_call 60; (with_reducible refine (word_any _ _ HO.out HV.out (by decide) _).mono ?_); rintro r w2 ⟨rfl, hb2⟩))
  go_ret
  exact ⟨rfl, below_then hb1 hb2⟩

theorem slot_m {c : Cfg} (hc : OkC c) (N : Nat) (v j : Int) (hv : (Lit.int .i64 v).wf = true) (w : World) (hm : IsMap w N c) : Calls Tryz.prog 28 #[mapP N, .int .i64 v, .int .i64 j] w fun e w' => e = .returned (.int .i64 (plcc c 18 v j)) ∧ Below w.heap.size w w' := by
  have H := Lib.hid hc; have HM := Lib.hid hm; have HV := Lib.hid hv; have HO := Lib.hid (node_ok hc v)
  rw [← plc_slot hc v j]
  clear hc hm hv
  go_enter Tryz.func28, Tryz.ntmps28
  go_wp2_with (first
    | (go_at_call 59; (with_reducible refine (rowOf_m H.out _ _ _ HM.out).mono ?_); rintro r w1 ⟨rfl, hb1⟩)
    | (go_at_call 64; (with_reducible refine (item_any _ _ HO.out HV.out _).mono ?_); rintro r w2 ⟨rfl, hb2⟩))
  go_ret
  exact ⟨rfl, below_then hb1 hb2⟩
theorem work_m {c : Cfg} (hc : OkC c) (N : Nat) (w : World) (hm : IsMap w N c) : Calls Tryz.prog 30 #[mapP N] w fun e w' => e = .returned (.int .i64 (plcc c 1 0 0)) ∧ Below w.heap.size w w' := by
  rw [← plc_single c 1 (by decide) (by decide)]; exact work_w N hc w hm
theorem pool_m {c : Cfg} (hc : OkC c) (N : Nat) (w : World) (hm : IsMap w N c) : Calls Tryz.prog 178 #[mapP N] w fun e w' => e = .returned (.int .i64 (plcc c 4 0 0)) ∧ Below w.heap.size w w' := by
  rw [← plc_single c 4 (by decide) (by decide)]; exact pool_w N hc w hm
theorem spare_m {c : Cfg} (hc : OkC c) (N : Nat) (w : World) (hm : IsMap w N c) : Calls Tryz.prog 72 #[mapP N] w fun e w' => e = .returned (.int .i64 (plcc c 5 0 0)) ∧ Below w.heap.size w w' := by
  rw [← plc_single c 5 (by decide) (by decide)]; exact spare_w N hc w hm
theorem head_m {c : Cfg} (hc : OkC c) (N : Nat) (i : Int) (hi : (Lit.int .i64 i).wf = true) (w : World) (hm : IsMap w N c) : Calls Tryz.prog 70 #[mapP N, .int .i64 i] w fun e w' => e = .returned (.int .i64 (plcc c 7 i 0)) ∧ Below w.heap.size w w' := by
  rw [← plc_head hc i]; exact head_w N i hi hc w hm
theorem top_m {c : Cfg} (hc : OkC c) (N : Nat) (i : Int) (hi : (Lit.int .i64 i).wf = true) (w : World) (hm : IsMap w N c) : Calls Tryz.prog 133 #[mapP N, .int .i64 i] w fun e w' => e = .returned (.int .i64 (plcc c 8 i 0)) ∧ Below w.heap.size w w' := by
  rw [← plc_top hc i]; exact top_w N i hi hc w hm
theorem bottom_m {c : Cfg} (hc : OkC c) (N : Nat) (i : Int) (hi : (Lit.int .i64 i).wf = true) (w : World) (hm : IsMap w N c) : Calls Tryz.prog 33 #[mapP N, .int .i64 i] w fun e w' => e = .returned (.int .i64 (plcc c 9 i 0)) ∧ Below w.heap.size w w' := by
  rw [← plc_bottom hc i]; exact bottom_w N i hi hc w hm
theorem many_m {c : Cfg} (hc : OkC c) (N : Nat) (i : Int) (hi : (Lit.int .i64 i).wf = true) (w : World) (hm : IsMap w N c) : Calls Tryz.prog 175 #[mapP N, .int .i64 i] w fun e w' => e = .returned (.int .i64 (plcc c 11 i 0)) ∧ Below w.heap.size w w' := by
  rw [← plc_many hc i]; exact many_w N i hi hc w hm
theorem link_m {c : Cfg} (hc : OkC c) (N : Nat) (i : Int) (hi : (Lit.int .i64 i).wf = true) (w : World) (hm : IsMap w N c) : Calls Tryz.prog 73 #[mapP N, .int .i64 i] w fun e w' => e = .returned (.int .i64 (plcc c 12 i 0)) ∧ Below w.heap.size w w' := by
  rw [← plc_link hc i]; exact link_w N i hi hc w hm
theorem entry_m {c : Cfg} (hc : OkC c) (N : Nat) (i j : Int) (hi : (Lit.int .i64 i).wf = true) (w : World) (hm : IsMap w N c) : Calls Tryz.prog 134 #[mapP N, .int .i64 i, .int .i64 j] w fun e w' => e = .returned (.int .i64 (plcc c 10 i j)) ∧ Below w.heap.size w w' := by
  rw [← plc_entry hc i j]; exact entry_w N i j hi hc w hm
theorem task_m {c : Cfg} (hc : OkC c) (N : Nat) (i j : Int) (hi : (Lit.int .i64 i).wf = true) (w : World) (hm : IsMap w N c) : Calls Tryz.prog 170 #[mapP N, .int .i64 i, .int .i64 j] w fun e w' => e = .returned (.int .i64 (plcc c 13 i j)) ∧ Below w.heap.size w w' := by
  rw [← plc_task hc i j]; exact task_w N i j hi hc w hm
end Go.Proofs.YtpocihddecemfaaGreat.Lay

namespace Go.Proofs.YtpocihddecemfaaGreat.Lay
open Go.RowKit
set_option linter.unusedVariables false

theorem IsMap.sw {w : World} {N : Nat} {c : Cfg} (h : IsMap w N c) : w.cell? ⟨N, 11, none⟩ = some (.int .i64 c.sw) ∧ IsMap w N c := ⟨h.2 11 (by omega), h⟩
theorem IsMap.more {X : Prop} {N : Nat} {c : Cfg} {w' w2 : World} (h : X ∧ IsMap w' N c) (hb : Below w'.heap.size w' w2) : IsMap w2 N c := h.2.below hb

theorem parts_bd' {c : Cfg} (h : OkC c) : 0 ≤ partsC c ∧ partsC c ≤ 60 ∧ (∀ j, 0 ≤ j → j < partsC c → j * c.sw + 1 ≤ nodesN c) := by
  have n0 := (bds h).n0; have n1 := (bds h).n1; have s0 := h.w0; have s1 := h.w1
  have hp : partsC c = (nodesN c + c.sw - 1) / c.sw := by unfold partsC piecesOf; rw [if_neg (by omega)]
  refine ⟨by rw [hp]; exact Int.ediv_nonneg (by omega) (by omega), ?_, fun j h0 hj => ?_⟩
  · have : partsC c < 61 := by
      rw [hp]
      refine Int.ediv_lt_of_lt_mul (by omega) ?_
      have : 61 * 1 ≤ 61 * c.sw := Int.mul_le_mul_of_nonneg_left s0 (by decide)
      have h2 : (61 : Int) * c.sw = 60 * c.sw + c.sw := by omega
      have : 60 * 1 ≤ 60 * c.sw := Int.mul_le_mul_of_nonneg_left s0 (by decide)
      omega
    omega
  · have h1 : j + 1 ≤ (nodesN c + c.sw - 1) / c.sw := by omega
    have h2 := (Int.le_ediv_iff_mul_le (by omega : 0 < c.sw)).1 h1
    rw [Int.add_mul] at h2; omega

end Go.Proofs.YtpocihddecemfaaGreat.Lay

namespace Go.Proofs.YtpocihddecemfaaGreat.Lay
open Go.RowKit
set_option linter.unusedVariables false

theorem plc_b0 (c : Sh) (k a b : Int) (h0 : 6 ≤ k) (h : k ≤ 9 ∨ k = 11 ∨ k = 12 ∨ (14 ≤ k ∧ k ≤ 17)) : plc c ⟨k, a, b⟩ = plc c ⟨k, a, 0⟩ := by
  have : k = 6 ∨ k = 7 ∨ k = 8 ∨ k = 9 ∨ k = 11 ∨ k = 12 ∨ k = 14 ∨ k = 15 ∨ k = 16 ∨ k = 17 := by omega
  rcases this with rfl | rfl | rfl | rfl | rfl | rfl | rfl | rfl | rfl | rfl <;> rfl
theorem plc_ab0 (c : Sh) (k a b : Int) (h0 : 0 ≤ k) (h : k ≤ 5) : plc c ⟨k, a, b⟩ = plc c ⟨k, 0, 0⟩ := by
  have : k = 0 ∨ k = 1 ∨ k = 2 ∨ k = 3 ∨ k = 4 ∨ k = 5 := by omega
  rcases this with rfl | rfl | rfl | rfl | rfl | rfl <;> rfl

end Go.Proofs.YtpocihddecemfaaGreat.Lay

namespace Go.Proofs.YtpocihddecemfaaGreat.Lay
open Go.RowKit
set_option linter.unusedVariables false

/-- The words that are being made. -/
def FS (B G n : Nat) (w0 wr : World) (L : List Int) : Prop :=
  wr.ownsRow B 25 1 (.slice (some ⟨G, 0, none⟩) n n) n (L.map (Value.int .u64)) ∧ Below B w0 wr
/-- All other blocks are as they were. -/
def Keep (G : Nat) (w w' : World) : Prop := w.heap.size ≤ w'.heap.size ∧ ∀ b o, b < w.heap.size → b ≠ G → w'.cell? ⟨b, o, none⟩ = w.cell? ⟨b, o, none⟩
theorem Keep.refl (G : Nat) (w : World) : Keep G w w := ⟨Nat.le_refl _, fun _ _ _ _ => rfl⟩
theorem Keep.below {G : Nat} {w w' w2 : World} (h : Keep G w w') (hb : Below w'.heap.size w' w2) : Keep G w w2 :=
  ⟨Nat.le_trans h.1 hb.size, fun b o hl hn => (hb.cell (p := ⟨b, o, none⟩) (Nat.lt_of_lt_of_le hl h.1)).trans (h.2 b o hl hn)⟩
theorem Keep.set {G i : Nat} {w w' : World} {v : Value} (h : Keep G w w') : Keep G w (w'.setCell ⟨G, i, none⟩ v) :=
  ⟨by simpa using h.1, fun b o hl hn => (World.cell?_setCell_other _ _ _ _ (by intro hh; injection hh with h1; exact hn h1.symm)).trans (h.2 b o hl hn)⟩
theorem FS.step {B G n : Nat} {w0 wr w' : World} {L : List Int} (h : FS B G n w0 wr L) (hB : B ≤ w0.heap.size) (k : Below wr.heap.size wr w') : FS B G n w0 w' L :=
  ⟨h.1.kept (grown_of_below (row := none) k) (.inr (by intro e; cases e)), below_step h.2 (Nat.le_trans hB h.2.size) k⟩
theorem FS.set {B G n : Nat} {w0 wr : World} {L : List Int} (h : FS B G n w0 wr L) (hB : B ≤ w0.heap.size) (i : Nat) (x : Int) : FS B G n w0 (wr.setCell ⟨G, i, none⟩ (.int .u64 x)) (L.set i x) := by
  have s := (h.1.stored i (.int .u64 x)).1
  rw [← List.map_set] at s
  exact ⟨s, h.2.setCell (h.1.lt G rfl).1 _⟩
theorem FS.cell {B G n : Nat} {w0 wr : World} {L : List Int} (h : FS B G n w0 wr L) (i : Nat) (hi : i < n) (hL : L.length = n) : wr.cell? ⟨G, i, none⟩ = some (.int .u64 (L.getD i 0)) ∧ wr.frozen? ⟨G, i, none⟩ = false := by
  refine ⟨?_, h.1.frozenAt i⟩
  rw [h.1.cellAt i (by omega)]
  exact map_get .u64 L i (by omega)
theorem IsMap.belowB {w0 w' : World} {N B : Nat} {c : Cfg} (h : IsMap w0 N c) (hb : Below B w0 w') (hN : N < B) : IsMap w' N c :=
  ⟨Nat.lt_of_lt_of_le h.1 hb.size, fun i hi => (hb.cell (p := ⟨N, i, none⟩) hN).trans (h.2 i hi)⟩

theorem next_pos {c : Cfg} (hc : OkC c) (i : Int) (h1 : 1 ≤ i) (h2 : i ≤ nodesN c) : 0 ≤ plcc c 17 i 0 := by
  rw [show plcc c 17 i 0 = _ from (plc_node hc i 3 (by decide) (by decide)).symm, node_at hc, if_pos ⟨h1, h2⟩]; omega
set_option maxHeartbeats 4000000 in
set_option maxRecDepth 100000 in
theorem stack_next {c : Cfg} (hc : OkC c) (N G n B : Nat) (w0 w : World) (L : List Int) (V : Th → Int) (H : Nat) (t : Th) (f l : Int) (ht : plc (shOf c) t = (H : Int)) (hn : Norm t) (hk : t.k ≠ 17) (hf : 1 ≤ f) (hf2 : f ≤ 1001) (hl : l ≤ nodesN c) (hl0 : -1 ≤ l)
    (hfs : FS B G n w0 w L) (hB : B ≤ w0.heap.size) (hN : N < B) (hm : IsMap w0 N c) (hR : Rep (shOf c) L V) (hnl : n = lenL (shOf c)) :
    Calls Tryz.prog 69 #[.slice (some ⟨G, 0, none⟩) n n, .int .i64 (H : Int), .func (.func 71) #[mapP N] #[], .int .i64 f, .int .i64 l] w fun e w' => e = .returned (.tuple #[]) ∧ ∃ L', FS B G n w0 w' L' ∧ Rep (shOf c) L' (stkV V t 17 f l) ∧ Keep G w w' := by
  by_cases hfl : l < f
  · have HF : Hid (∃ L', FS B G n w0 w L' ∧ Rep (shOf c) L' (stkV V t 17 f l) ∧ Keep G w w) := Lib.hid ⟨L, hfs, hR.congr (fun u _ => stk_none hfl u), Keep.refl _ _⟩
    clear hfs hR
    go_enter Tryz.func69, Tryz.ntmps69
    go_wp2_with (fail)
    go_returns
    exact ⟨rfl, HF.out⟩
  · have hlN : lenL (shOf c) ≤ 7000 := by have := lenL_eq hc; have := (bds hc).t55'; omega
    have hHn : H < n := by have := plc_lt hn (by omega : 0 ≤ plc (shOf c) t); omega
    have hl1 : l ≤ 1000 := by have := (bds hc).p1; have := (bds hc).n1; omega
    have hpos : ∀ i : Int, f ≤ i → i < l → ∃ q : Nat, plcc c 17 i 0 = (q : Int) ∧ q < n := fun i h1 h2 => by
      have hp := next_pos hc i (by omega) (by omega)
      have hlt : plcc c 17 i 0 < lenL (shOf c) := plc_lt (s := shOf c) (t := ⟨17, i, 0⟩) (norm_k _ _ (by decide) (by decide)) hp
      exact ⟨(plcc c 17 i 0).toNat, by omega, by omega⟩
    have hLn : L.length = n := by rw [hR.1, hnl]
    have hc0 := (hfs.cell H hHn hLn)
    have hwn : n ≤ 7000 := by omega
    have HH : Hid (∀ w1, Below w.heap.size w w1 → (w1.cell? ⟨G, H, none⟩ = some (.int .u64 (L.getD H 0)) ∧ w1.frozen? ⟨G, H, none⟩ = false) ∧ FS B G n w0 (w1.setCell ⟨G, H, none⟩ (.int .u64 f)) (L.set H f) ∧ Keep G w (w1.setCell ⟨G, H, none⟩ (.int .u64 f))) :=
      Lib.hid fun w1 hb => ⟨(hfs.step hB hb).cell H hHn hLn, (hfs.step hB hb).set hB H f, ((Keep.refl _ _).below hb).set⟩
    have HR1 := Lib.hid (stk_head (kd := 17) (f := f) hR hn ht)
    have hcv : IntKind.u32.wrap f = f := by rw [IntKind.wrap_u32]; omega
    have H0 := Lib.hid hc; have HM := Lib.hid hm; have HP := Lib.hid hpos; have HK := Lib.hid hk
    have hH0 : (0 : Int) ≤ (H : Int) := by omega
    have hH1 : (H : Int) < (n : Int) := by omega
    have hfl2 : f ≤ l := by omega
    clear hfs hR ht hpos hc0 hm hLn hnl hlN hn hk hc
    go_enter Tryz.func69, Tryz.ntmps69
    go_wp2_with (first
      | (go_at_call 29; (with_reducible refine (pair_any f (by omega) (by omega) _).mono ?_); rintro r w1 ⟨rfl, hb1⟩; obtain ⟨⟨hcb, hfb⟩, hfs1⟩ := HH.out _ hb1)
      | fail)
    have HF1 := Lib.hid hfs1
    clear hfs1 hcb hfb HH hb1
    go_loopw [10] (fun i wr => ∃ (k : Nat) (L' : List Int), f + k ≤ l ∧ i = .int .i64 (f + (k : Int)) ∧ FS B G n w0 wr L' ∧ Rep (shOf c) L' (stkTo V t 17 f (f + (k : Int))) ∧ Keep G w wr) (fun i _ => l.toNat - (intOf i).toNat)
    case atStart => exact ⟨0, _, by omega, by simp, HF1.out.1, by simpa using HR1.out, HF1.out.2⟩
    case round =>
      clear HF1 HR1 hcv
      obtain ⟨k, L', hk, rfl, hfs, hR, hkp⟩ := hrel
      have hLn : L'.length = n := hR.1.trans (by rw [← hR.1]; have := hfs.1.1; simpa using this)
      by_cases hlt : f + (k : Int) < l
      · obtain ⟨q, hq, hqn⟩ := HP.out (f + (k : Int)) (by omega) hlt
        have HQ := Lib.hid hq
        have HS := Lib.hid (stk_step hR HK.out (by decide) (by omega) hq)
        have HH : Hid (∀ w1, Below wr.heap.size wr w1 → (w1.cell? ⟨G, q, none⟩ = some (.int .u64 (L'.getD q 0)) ∧ w1.frozen? ⟨G, q, none⟩ = false) ∧ FS B G n w0 (w1.setCell ⟨G, q, none⟩ (.int .u64 (f + (k : Int) + 1))) (L'.set q (f + (k : Int) + 1)) ∧ Keep G w (w1.setCell ⟨G, q, none⟩ (.int .u64 (f + (k : Int) + 1)))) :=
          Lib.hid fun w1 hb => ⟨(hfs.step hB hb).cell q hqn hLn, (hfs.step hB hb).set hB q _, (hkp.below hb).set⟩
        have HMr := Lib.hid (HM.out.belowB hfs.2 hN)
        have hwf := wf_i64 (v := f + (k : Int)) (by omega) (by omega)
        have HWF := Lib.hid hwf
        have hcv2 : IntKind.u64.wrap (f + (k : Int) + 1) = f + (k : Int) + 1 := by rw [IntKind.wrap_u64]; omega
        have hq0 : (0 : Int) ≤ (q : Int) := by omega
        have hq1 : (q : Int) < (n : Int) := by omega
        clear hq hfs hR hwf hLn hkp
        go_wp2_with (first
          | (go_at_call 71; (with_reducible refine (next_m H0.out _ _ HWF.out _ HMr.out).mono ?_); rintro r w1 ⟨rfl, hb1⟩; rw [HQ.out]; obtain ⟨⟨hcb, hfb⟩, hfs1⟩ := HH.out _ hb1)
          | fail)
        have HF2 := Lib.hid hfs1
        clear hfs1 hcb hfb
        go_roundw
        case rel => exact ⟨k + 1, _, by omega, by go_num, HF2.out.1, by rw [show f + ((k + 1 : Nat) : Int) = f + (k : Int) + 1 by omega]; exact HS.out, HF2.out.2⟩
        case measure => simp [intOf]; omega
      · have he : f + (k : Int) = l := by omega
        have HE : Hid (∃ L', FS B G n w0 wr L' ∧ Rep (shOf c) L' (stkV V t 17 f l) ∧ Keep G w wr) := Lib.hid ⟨L', hfs, hR.congr (fun u _ => by rw [he]; exact stk_done (by omega) u), hkp⟩
        clear hfs hR he hLn hkp
        go_wp2_with (fail)
        go_returns
        exact ⟨rfl, HE.out⟩

theorem link_pos {c : Cfg} (hc : OkC c) (i : Int) (h1 : 1 ≤ i) (h2 : i ≤ packN c) : 0 ≤ plcc c 12 i 0 := by
  have e := b2_eq hc
  rw [show plcc c 12 i 0 = _ from (plc_link hc i).symm, wordL, if_pos (by omega)]; have := (bds hc).t4; omega
set_option maxHeartbeats 4000000 in
set_option maxRecDepth 100000 in
theorem stack_link {c : Cfg} (hc : OkC c) (N G n B : Nat) (w0 w : World) (L : List Int) (V : Th → Int) (H : Nat) (t : Th) (f l : Int) (ht : plc (shOf c) t = (H : Int)) (hn : Norm t) (hk : t.k ≠ 12) (hf : 1 ≤ f) (hf2 : f ≤ 1001) (hl : l ≤ packN c) (hl0 : -1 ≤ l)
    (hfs : FS B G n w0 w L) (hB : B ≤ w0.heap.size) (hN : N < B) (hm : IsMap w0 N c) (hR : Rep (shOf c) L V) (hnl : n = lenL (shOf c)) :
    Calls Tryz.prog 69 #[.slice (some ⟨G, 0, none⟩) n n, .int .i64 (H : Int), .func (.func 73) #[mapP N] #[], .int .i64 f, .int .i64 l] w fun e w' => e = .returned (.tuple #[]) ∧ ∃ L', FS B G n w0 w' L' ∧ Rep (shOf c) L' (stkV V t 12 f l) ∧ Keep G w w' := by
  by_cases hfl : l < f
  · have HF : Hid (∃ L', FS B G n w0 w L' ∧ Rep (shOf c) L' (stkV V t 12 f l) ∧ Keep G w w) := Lib.hid ⟨L, hfs, hR.congr (fun u _ => stk_none hfl u), Keep.refl _ _⟩
    clear hfs hR
    go_enter Tryz.func69, Tryz.ntmps69
    go_wp2_with (fail)
    go_returns
    exact ⟨rfl, HF.out⟩
  · have hlN : lenL (shOf c) ≤ 7000 := by have := lenL_eq hc; have := (bds hc).t55'; omega
    have hHn : H < n := by have := plc_lt hn (by omega : 0 ≤ plc (shOf c) t); omega
    have hl1 : l ≤ 1000 := by have := (bds hc).p1; have := (bds hc).n1; omega
    have hpos : ∀ i : Int, f ≤ i → i < l → ∃ q : Nat, plcc c 12 i 0 = (q : Int) ∧ q < n := fun i h1 h2 => by
      have hp := link_pos hc i (by omega) (by omega)
      have hlt : plcc c 12 i 0 < lenL (shOf c) := plc_lt (s := shOf c) (t := ⟨12, i, 0⟩) (norm_k _ _ (by decide) (by decide)) hp
      exact ⟨(plcc c 12 i 0).toNat, by omega, by omega⟩
    have hLn : L.length = n := by rw [hR.1, hnl]
    have hc0 := (hfs.cell H hHn hLn)
    have hwn : n ≤ 7000 := by omega
    have HH : Hid (∀ w1, Below w.heap.size w w1 → (w1.cell? ⟨G, H, none⟩ = some (.int .u64 (L.getD H 0)) ∧ w1.frozen? ⟨G, H, none⟩ = false) ∧ FS B G n w0 (w1.setCell ⟨G, H, none⟩ (.int .u64 f)) (L.set H f) ∧ Keep G w (w1.setCell ⟨G, H, none⟩ (.int .u64 f))) :=
      Lib.hid fun w1 hb => ⟨(hfs.step hB hb).cell H hHn hLn, (hfs.step hB hb).set hB H f, ((Keep.refl _ _).below hb).set⟩
    have HR1 := Lib.hid (stk_head (kd := 12) (f := f) hR hn ht)
    have hcv : IntKind.u32.wrap f = f := by rw [IntKind.wrap_u32]; omega
    have H0 := Lib.hid hc; have HM := Lib.hid hm; have HP := Lib.hid hpos; have HK := Lib.hid hk
    have hH0 : (0 : Int) ≤ (H : Int) := by omega
    have hH1 : (H : Int) < (n : Int) := by omega
    have hfl2 : f ≤ l := by omega
    clear hfs hR ht hpos hc0 hm hLn hnl hlN hn hk hc
    go_enter Tryz.func69, Tryz.ntmps69
    go_wp2_with (first
      | (go_at_call 29; (with_reducible refine (pair_any f (by omega) (by omega) _).mono ?_); rintro r w1 ⟨rfl, hb1⟩; obtain ⟨⟨hcb, hfb⟩, hfs1⟩ := HH.out _ hb1)
      | fail)
    have HF1 := Lib.hid hfs1
    clear hfs1 hcb hfb HH hb1
    go_loopw [10] (fun i wr => ∃ (k : Nat) (L' : List Int), f + k ≤ l ∧ i = .int .i64 (f + (k : Int)) ∧ FS B G n w0 wr L' ∧ Rep (shOf c) L' (stkTo V t 12 f (f + (k : Int))) ∧ Keep G w wr) (fun i _ => l.toNat - (intOf i).toNat)
    case atStart => exact ⟨0, _, by omega, by simp, HF1.out.1, by simpa using HR1.out, HF1.out.2⟩
    case round =>
      clear HF1 HR1 hcv
      obtain ⟨k, L', hk, rfl, hfs, hR, hkp⟩ := hrel
      have hLn : L'.length = n := hR.1.trans (by rw [← hR.1]; have := hfs.1.1; simpa using this)
      by_cases hlt : f + (k : Int) < l
      · obtain ⟨q, hq, hqn⟩ := HP.out (f + (k : Int)) (by omega) hlt
        have HQ := Lib.hid hq
        have HS := Lib.hid (stk_step hR HK.out (by decide) (by omega) hq)
        have HH : Hid (∀ w1, Below wr.heap.size wr w1 → (w1.cell? ⟨G, q, none⟩ = some (.int .u64 (L'.getD q 0)) ∧ w1.frozen? ⟨G, q, none⟩ = false) ∧ FS B G n w0 (w1.setCell ⟨G, q, none⟩ (.int .u64 (f + (k : Int) + 1))) (L'.set q (f + (k : Int) + 1)) ∧ Keep G w (w1.setCell ⟨G, q, none⟩ (.int .u64 (f + (k : Int) + 1)))) :=
          Lib.hid fun w1 hb => ⟨(hfs.step hB hb).cell q hqn hLn, (hfs.step hB hb).set hB q _, (hkp.below hb).set⟩
        have HMr := Lib.hid (HM.out.belowB hfs.2 hN)
        have hwf := wf_i64 (v := f + (k : Int)) (by omega) (by omega)
        have HWF := Lib.hid hwf
        have hcv2 : IntKind.u64.wrap (f + (k : Int) + 1) = f + (k : Int) + 1 := by rw [IntKind.wrap_u64]; omega
        have hq0 : (0 : Int) ≤ (q : Int) := by omega
        have hq1 : (q : Int) < (n : Int) := by omega
        clear hq hfs hR hwf hLn hkp
        go_wp2_with (first
          | (go_at_call 73; (with_reducible refine (link_m H0.out _ _ HWF.out _ HMr.out).mono ?_); rintro r w1 ⟨rfl, hb1⟩; rw [HQ.out]; obtain ⟨⟨hcb, hfb⟩, hfs1⟩ := HH.out _ hb1)
          | fail)
        have HF2 := Lib.hid hfs1
        clear hfs1 hcb hfb
        go_roundw
        case rel => exact ⟨k + 1, _, by omega, by go_num, HF2.out.1, by rw [show f + ((k + 1 : Nat) : Int) = f + (k : Int) + 1 by omega]; exact HS.out, HF2.out.2⟩
        case measure => simp [intOf]; omega
      · have he : f + (k : Int) = l := by omega
        have HE : Hid (∃ L', FS B G n w0 wr L' ∧ Rep (shOf c) L' (stkV V t 12 f l) ∧ Keep G w wr) := Lib.hid ⟨L', hfs, hR.congr (fun u _ => by rw [he]; exact stk_done (by omega) u), hkp⟩
        clear hfs hR he hLn hkp
        go_wp2_with (fail)
        go_returns
        exact ⟨rfl, HE.out⟩
end Go.Proofs.YtpocihddecemfaaGreat.Lay
