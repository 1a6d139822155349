
import Derived.Test.YthoiaffeenhfgaaGreatJ7
namespace Go.Proofs.YthoiaffeenhfgaaGreat.Lay
open Go.RowKit
set_option linter.unusedVariables false
theorem wf_i64 {v : Int} (h0 : -9223372036854775808 ≤ v) (h1 : v ≤ 9223372036854775807) : (Lit.int .i64 v).wf = true := by
  simp [Lit.wf, IntKind.min, IntKind.max, IntKind.signed, IntKind.bits]; omega
theorem cells5 {w : World} {N : Nat} {c : Cfg} (h : IsMap w N c) : w.cell? ⟨N, 0, none⟩ = some (.int .i64 c.a) ∧ w.cell? ⟨N, 1, none⟩ = some (.int .i64 c.b) ∧ w.cell? ⟨N, 2, none⟩ = some (.int .i64 c.c) ∧ w.cell? ⟨N, 3, none⟩ = some (.int .i64 c.d) ∧ w.cell? ⟨N, 4, none⟩ = some (.int .i64 c.e) :=
  ⟨h.2 0 (by omega), h.2 1 (by omega), h.2 2 (by omega), h.2 3 (by omega), h.2 4 (by omega)⟩
theorem cells7 {w : World} {N : Nat} {c : Cfg} (h : IsMap w N c) : w.cell? ⟨N, 5, none⟩ = some (.int .i64 c.mr) ∧ w.cell? ⟨N, 6, none⟩ = some (.int .i64 c.mu) ∧ w.cell? ⟨N, 7, none⟩ = some (.int .i64 c.dq) ∧ w.cell? ⟨N, 8, none⟩ = some (.int .i64 c.ch) ∧ w.cell? ⟨N, 9, none⟩ = some (.int .i64 c.bf) ∧ w.cell? ⟨N, 10, none⟩ = some (.int .i64 c.rt) ∧ w.cell? ⟨N, 11, none⟩ = some (.int .i64 c.sw) :=
  ⟨h.2 5 (by omega), h.2 6 (by omega), h.2 7 (by omega), h.2 8 (by omega), h.2 9 (by omega), h.2 10 (by omega), h.2 11 (by omega)⟩
theorem class_m {c : Cfg} (N : Nat) (v : Int) (w : World) (hm : IsMap w N c) : Calls Tryz.prog 66 #[mapP N, .int .i64 v] w fun e w' => e = .returned (.int .i64 (kindV c v)) ∧ Below w.heap.size w w' := by
  obtain ⟨r0, r1, r2, r3, r4⟩ := cells5 hm
  clear hm
  go_enter Tryz.func66, Tryz.ntmps66
  go_wp2_with (first
    | (go_at_call 65; (with_reducible refine (laid_any _ _).mono ?_); rintro r w1 ⟨rfl, rfl⟩)
    | (go_at_call 85; (with_reducible refine (class_any _ _ _ _ _ _ _).mono ?_); rintro r w1 ⟨rfl, hb1⟩))
  go_ret
  exact ⟨rfl, hb1⟩
theorem class_is {c : Cfg} (N : Nat) (v k : Int) (hk : kindV c v = k) (w : World) (hm : IsMap w N c) : Calls Tryz.prog 66 #[mapP N, .int .i64 v] w fun e w' => e = .returned (.int .i64 k) ∧ Below w.heap.size w w' := by
  subst hk; exact class_m N v w hm
theorem room_m {c : Cfg} (N : Nat) (v : Int) (w : World) (hm : IsMap w N c) : Calls Tryz.prog 22 #[mapP N, .int .i64 v] w fun e w' => e = .returned (.int .i64 (slotsOf (kindV c v))) ∧ Below w.heap.size w w' := by
  have HM := Lib.hid hm; clear hm
  go_enter Tryz.func22, Tryz.ntmps22
  go_wp2_with (first
    | (go_at_call 66; (with_reducible refine (class_m _ _ _ HM.out).mono ?_); rintro r w1 ⟨rfl, hb1⟩)
    | (go_at_call 44; (with_reducible refine (slots_any _ _).mono ?_); rintro r w2 ⟨rfl, rfl⟩))
  go_ret
  exact ⟨rfl, hb1⟩
theorem nodes_m {c : Cfg} (hc : OkC c) (N : Nat) (w : World) (hm : IsMap w N c) : Calls Tryz.prog 21 #[mapP N] w fun e w' => e = .returned (.int .i64 (nodesN c)) ∧ Below w.heap.size w w' := by
  obtain ⟨r0, r1, r2, r3, r4⟩ := cells5 hm
  have H := Lib.hid hc
  clear hm hc
  go_enter Tryz.func21, Tryz.ntmps21
  go_wp2_with (first
    | (go_at_call 65; (with_reducible refine (laid_any _ _).mono ?_); rintro r w1 ⟨rfl, rfl⟩)
    | (go_at_call 64; (with_reducible refine (nodes_ok H.out _).mono ?_); rintro r w1 ⟨rfl, hb1⟩))
  go_ret
  exact ⟨rfl, hb1⟩
theorem common_m {c : Cfg} (hc : OkC c) (N : Nat) (w : World) (hm : IsMap w N c) : Calls Tryz.prog 46 #[mapP N] w fun e w' => e = .returned (.int .i64 (nodesN c)) ∧ Below w.heap.size w w' := by
  have H := Lib.hid hc; have HM := Lib.hid hm
  clear hm hc
  go_enter Tryz.func46, Tryz.ntmps46
  go_wp2_with (first
    | (go_at_call 21; (with_reducible refine (nodes_m H.out _ _ HM.out).mono ?_); rintro r w1 ⟨rfl, hb1⟩)
    | fail)
  go_ret
  exact ⟨rfl, hb1⟩
theorem packets_m {c : Cfg} (N : Nat) (w : World) (hm : IsMap w N c) : Calls Tryz.prog 54 #[mapP N] w fun e w' => e = .returned (.int .i64 (packN c)) ∧ Below w.heap.size w w' := by
  obtain ⟨r0, r1, r2, r3, r4⟩ := row32 hm
  clear hm
  go_enter Tryz.func54, Tryz.ntmps54
  go_wp2_with (first
    | (go_at_call 65; (with_reducible refine (laid_any _ _).mono ?_); rintro r w1 ⟨rfl, rfl⟩)
    | fail)
  go_ret
  exact ⟨rfl, Below.refl _ _⟩
def partsC (c : Cfg) : Int := piecesOf (nodesN c) c.sw
theorem parts_m {c : Cfg} (hc : OkC c) (N : Nat) (w : World) (hm : IsMap w N c) : Calls Tryz.prog 35 #[mapP N] w fun e w' => e = .returned (.int .i64 (partsC c)) ∧ Below w.heap.size w w' := by
  have H := Lib.hid hc; have HM := Lib.hid hm
  have n0 := (bds hc).n0; have n1 := (bds hc).n1; have s1 := hc.w1
  clear hm hc
  go_enter Tryz.func35, Tryz.ntmps35
  go_wp2_with (first
    | (go_at_call 21; (with_reducible refine (nodes_m H.out _ _ HM.out).mono ?_); rintro r w1 ⟨rfl, hb1⟩; have c11 := (cells7 (HM.out.below hb1)).2.2.2.2.2.2)
    | (go_at_call 65; (with_reducible refine (laid_any _ _).mono ?_); rintro r w2 ⟨rfl, rfl⟩)
    | (go_at_call 75; (with_reducible refine (pieces_any _ _ (by omega) (by omega) (by omega) _).mono ?_); rintro r w2 ⟨rfl, rfl⟩))
  go_ret
  exact ⟨rfl, hb1⟩
theorem len_m {c : Cfg} (hc : OkC c) (N : Nat) (w : World) (hm : IsMap w N c) : Calls Tryz.prog 26 #[mapP N] w fun e w' => e = .returned (.int .i64 (at55 c)) ∧ Below w.heap.size w w' := by
  obtain ⟨r0, r1, r2, r3, r4⟩ := row57 hm
  have HK := Lib.hid (ok57 hc)
  have X : endL (at54 c) c.e 4 16 = at55 c := by simp [endL, at55]
  have HX := Lib.hid X
  clear hm hc X
  go_enter Tryz.func26, Tryz.ntmps26
  go_wp2_with (first
    | (go_at_call 65; (with_reducible refine (laid_any _ _).mono ?_); rintro r w1 ⟨rfl, rfl⟩)
    | (go_at_call 70; (with_reducible refine (end_any HK.out _).mono ?_); rintro r w1 ⟨rfl, hb1⟩; rw [HX.out]))
  go_ret
  exact ⟨rfl, hb1⟩
theorem config_m {c : Cfg} (N : Nat) (w : World) (hm : IsMap w N c) : Calls Tryz.prog 58 #[mapP N] w fun e w' => e = .returned (cfgV c) ∧ Below w.heap.size w w' := by
  have hm2 := hm.alloc (.cells #[.int .i64 0, .int .i64 0, .int .i64 0, .int .i64 0, .int .i64 0, .int .i64 0, .int .i64 0, .int .i64 0, .int .i64 0, .int .i64 0, .int .i64 0, .int .i64 0] 24)
  obtain ⟨r0, r1, r2, r3, r4⟩ := cells5 hm
  obtain ⟨r5, r6, r7, r8, r9, r10, r11⟩ := cells7 hm
  have hlt := hm.1
  have HB := Below.refl w.heap.size w
  clear hm hm2
  go_enter Tryz.func58, Tryz.ntmps58
  go_wp2_with (first
    | (go_at_call 65; (with_reducible refine (laid_any _ _).mono ?_); rintro r w1 ⟨rfl, rfl⟩)
    | (go_at_call 80; (with_reducible refine (config_any c _).mono ?_); rintro r w1 ⟨rfl, hb1⟩; obtain ⟨hcc, hff⟩ := bcell hb1))
  have HB1 := below_step (below_alloc0 HB _) (by simp) hb1
  have hz := hb1.size
  refine bodyPost_ret (v := cfgV c) (by simp [results, Tryz.results58, go_sem, hcc]) rfl ⟨rfl, ?_⟩
  go_grown
theorem laid_nil (w : World) : Calls Tryz.prog 65 #[.pointer none] w fun e w' => ∃ M, e = .returned (mapP M) ∧ (w'.cell? ⟨M, 0, none⟩ = some (.int .i64 0) ∧ w'.cell? ⟨M, 1, none⟩ = some (.int .i64 0) ∧ w'.cell? ⟨M, 2, none⟩ = some (.int .i64 0) ∧ w'.cell? ⟨M, 3, none⟩ = some (.int .i64 0) ∧ w'.cell? ⟨M, 4, none⟩ = some (.int .i64 0) ∧ w'.cell? ⟨M, 5, none⟩ = some (.int .i64 0) ∧ w'.cell? ⟨M, 6, none⟩ = some (.int .i64 0) ∧ w'.cell? ⟨M, 7, none⟩ = some (.int .i64 0) ∧ w'.cell? ⟨M, 8, none⟩ = some (.int .i64 0) ∧ w'.cell? ⟨M, 9, none⟩ = some (.int .i64 0) ∧ w'.cell? ⟨M, 10, none⟩ = some (.int .i64 0) ∧ w'.cell? ⟨M, 11, none⟩ = some (.int .i64 0)) ∧ Below w.heap.size w w' := by
  go_enter Tryz.func65, Tryz.ntmps65
  go_wp2
  go_ret
  refine ⟨_, rfl, ?_, (Below.refl _ _).alloc (Nat.le_refl _) _⟩
  refine ⟨?_, ?_, ?_, ?_, ?_, ?_, ?_, ?_, ?_, ?_, ?_, ?_⟩
  all_goals (rw [World.cell?_alloc_at _ _ _ _ rfl]; rfl)
def zeroC : Cfg := ⟨0, 0, 0, 0, 0, 0, 0, 0, 0, 0, 0, 0⟩
abbrev zeroV : Value := .agg #[.int .i64 0, .int .i64 0, .int .i64 0, .int .i64 0, .int .i64 0, .int .i64 0, .int .i64 0, .int .i64 0, .int .i64 0, .int .i64 0, .int .i64 0, .int .i64 0]
theorem config_zero (w : World) : Calls Tryz.prog 80 #[zeroV] w fun r w' => r = .returned zeroV ∧ Below w.heap.size w w' := config_any zeroC w
theorem config_nil (w : World) : Calls Tryz.prog 58 #[.pointer none] w fun e w' => e = .returned zeroV ∧ Below w.heap.size w w' := by
  have HB := Below.refl w.heap.size w
  go_enter Tryz.func58, Tryz.ntmps58
  go_wp2_with (first
    | (go_at_call 65; (with_reducible refine (laid_nil _).mono ?_); rintro r w1 ⟨M, rfl, hM, hb1⟩; obtain ⟨hcc, hff⟩ := bcell hb1; obtain ⟨r0, r1, r2, r3, r4, r5, r6, r7, r8, r9, r10, r11⟩ := hM; have hz1 := hb1.size; have hy1 : w.heap.size < w1.heap.size := (by simp at hz1; omega))
    | (go_at_call 80; (with_reducible refine (config_zero _).mono ?_); rintro r w2 ⟨rfl, hb2⟩; obtain ⟨hcc2, hff2⟩ := bcell hb2))
  have HB1 := below_step (below_alloc0 HB _) (by simp) hb1
  have HB2 := below_step HB1 HB1.size hb2
  have hz := hb1.size
  have hz2 := hb2.size
  refine bodyPost_ret (v := zeroV) (by simp [results, Tryz.results58, go_sem, hcc2, hcc, hy1]) rfl ⟨rfl, ?_⟩
  go_grown
theorem node_ok {c : Cfg} (h : OkC c) (v : Int) : RowOk (rA c (kindV c v)) (rF c (kindV c v)) (rM c (kindV c v)) (rW (kindV c v)) (slotsOf (kindV c v)) := by
  rcases kindV_cases h v with ⟨hk, _⟩ | ⟨hk, _⟩ | ⟨hk, _⟩ | ⟨hk, _⟩ | ⟨hk, _⟩ | ⟨hk, _⟩
  · rw [hk]; show RowOk 0 0 0 0 0; exact ⟨by decide, by decide, by decide, by decide, by decide, by decide, by decide, by decide, by decide, by decide⟩
  · rw [hk]; exact ok37 h
  · rw [hk]; exact ok42 h
  · rw [hk]; exact ok47 h
  · rw [hk]; exact ok52 h
  · rw [hk]; exact ok57 h
set_option maxHeartbeats 2000000 in
theorem rowOf_m {c : Cfg} (hc : OkC c) (N : Nat) (v : Int) (w : World) (hm : IsMap w N c) : Calls Tryz.prog 68 #[mapP N, .int .i64 v] w fun e w' => e = .returned (rowV (rA c (kindV c v)) (rF c (kindV c v)) (rM c (kindV c v)) (rW (kindV c v)) (slotsOf (kindV c v))) ∧ Below w.heap.size w w' := by
  have hm2 := hm.alloc (.cells #[.int .i64 0, .int .i64 0, .int .i64 0, .int .i64 0, .int .i64 0] 76)
  have HM := Lib.hid hm2
  have HB := Below.refl w.heap.size w
  have hk6 : kindV c v = -1 ∨ kindV c v = 0 ∨ kindV c v = 1 ∨ kindV c v = 2 ∨ kindV c v = 3 ∨ kindV c v = 4 := by
    rcases kindV_cases hc v with ⟨hk, _⟩ | ⟨hk, _⟩ | ⟨hk, _⟩ | ⟨hk, _⟩ | ⟨hk, _⟩ | ⟨hk, _⟩ <;> omega
  clear hm hm2
  rcases hk6 with hk | hk | hk | hk | hk | hk
  · rw [hk]
    show Calls _ _ _ _ fun e w' => e = .returned (rowV 0 0 0 0 0) ∧ _
    have HK := Lib.hid hk
    clear hk
    go_enter Tryz.func68, Tryz.ntmps68
    go_wp2_with (first
      | (go_at_call 66; (with_reducible refine (class_is _ _ _ HK.out _ HM.out).mono ?_); rintro r w1 ⟨rfl, hb1⟩; obtain ⟨hcc, hff⟩ := bcell hb1)
      | fail)
    have HB1 := below_step (below_alloc0 HB _) (by simp) hb1
    have hz := hb1.size
    refine bodyPost_ret (v := rowV 0 0 0 0 0) (by simp [results, Tryz.results68, go_sem, hcc]) rfl ⟨rfl, ?_⟩
    go_grown
  · rw [hk]
    show Calls _ _ _ _ fun e w' => e = .returned (rowV (at50 c) 1 c.a 4 1) ∧ _
    have HK := Lib.hid hk
    clear hk
    go_enter Tryz.func68, Tryz.ntmps68
    go_wp2_with (first
      | (go_at_call 66; (with_reducible refine (class_is _ _ _ HK.out _ HM.out).mono ?_); rintro r w1 ⟨rfl, hb1⟩; obtain ⟨hcc, hff⟩ := bcell hb1; obtain ⟨r0, r1, r2, r3, r4⟩ := row37 (HM.out.below hb1))
      | fail)
    have HB1 := below_step (below_alloc0 HB _) (by simp) hb1
    have hz := hb1.size
    refine bodyPost_ret (v := rowV (at50 c) 1 c.a 4 1) (by simp [results, Tryz.results68, go_sem, hcc]) rfl ⟨rfl, ?_⟩
    go_grown
  · rw [hk]
    show Calls _ _ _ _ fun e w' => e = .returned (rowV (at51 c) (1 + c.a) c.b 4 2) ∧ _
    have HK := Lib.hid hk
    clear hk
    go_enter Tryz.func68, Tryz.ntmps68
    go_wp2_with (first
      | (go_at_call 66; (with_reducible refine (class_is _ _ _ HK.out _ HM.out).mono ?_); rintro r w1 ⟨rfl, hb1⟩; obtain ⟨hcc, hff⟩ := bcell hb1; obtain ⟨r0, r1, r2, r3, r4⟩ := row42 (HM.out.below hb1))
      | fail)
    have HB1 := below_step (below_alloc0 HB _) (by simp) hb1
    have hz := hb1.size
    refine bodyPost_ret (v := rowV (at51 c) (1 + c.a) c.b 4 2) (by simp [results, Tryz.results68, go_sem, hcc]) rfl ⟨rfl, ?_⟩
    go_grown
  · rw [hk]
    show Calls _ _ _ _ fun e w' => e = .returned (rowV (at52 c) (1 + c.a + c.b) c.c 4 4) ∧ _
    have HK := Lib.hid hk
    clear hk
    go_enter Tryz.func68, Tryz.ntmps68
    go_wp2_with (first
      | (go_at_call 66; (with_reducible refine (class_is _ _ _ HK.out _ HM.out).mono ?_); rintro r w1 ⟨rfl, hb1⟩; obtain ⟨hcc, hff⟩ := bcell hb1; obtain ⟨r0, r1, r2, r3, r4⟩ := row47 (HM.out.below hb1))
      | fail)
    have HB1 := below_step (below_alloc0 HB _) (by simp) hb1
    have hz := hb1.size
    refine bodyPost_ret (v := rowV (at52 c) (1 + c.a + c.b) c.c 4 4) (by simp [results, Tryz.results68, go_sem, hcc]) rfl ⟨rfl, ?_⟩
    go_grown
  · rw [hk]
    show Calls _ _ _ _ fun e w' => e = .returned (rowV (at53 c) (1 + c.a + c.b + c.c) c.d 4 8) ∧ _
    have HK := Lib.hid hk
    clear hk
    go_enter Tryz.func68, Tryz.ntmps68
    go_wp2_with (first
      | (go_at_call 66; (with_reducible refine (class_is _ _ _ HK.out _ HM.out).mono ?_); rintro r w1 ⟨rfl, hb1⟩; obtain ⟨hcc, hff⟩ := bcell hb1; obtain ⟨r0, r1, r2, r3, r4⟩ := row52 (HM.out.below hb1))
      | fail)
    have HB1 := below_step (below_alloc0 HB _) (by simp) hb1
    have hz := hb1.size
    refine bodyPost_ret (v := rowV (at53 c) (1 + c.a + c.b + c.c) c.d 4 8) (by simp [results, Tryz.results68, go_sem, hcc]) rfl ⟨rfl, ?_⟩
    go_grown
  · rw [hk]
    show Calls _ _ _ _ fun e w' => e = .returned (rowV (at54 c) (1 + c.a + c.b + c.c + c.d) c.e 4 16) ∧ _
    have HK := Lib.hid hk
    clear hk
    go_enter Tryz.func68, Tryz.ntmps68
    go_wp2_with (first
      | (go_at_call 66; (with_reducible refine (class_is _ _ _ HK.out _ HM.out).mono ?_); rintro r w1 ⟨rfl, hb1⟩; obtain ⟨hcc, hff⟩ := bcell hb1; obtain ⟨r0, r1, r2, r3, r4⟩ := row57 (HM.out.below hb1))
      | fail)
    have HB1 := below_step (below_alloc0 HB _) (by simp) hb1
    have hz := hb1.size
    refine bodyPost_ret (v := rowV (at54 c) (1 + c.a + c.b + c.c + c.d) c.e 4 16) (by simp [results, Tryz.results68, go_sem, hcc]) rfl ⟨rfl, ?_⟩
    go_grown
theorem header_m {c : Cfg} (hc : OkC c) (N : Nat) (v : Int) (hv : (Lit.int .i64 v).wf = true) (w : World) (hm : IsMap w N c) : Calls Tryz.prog 48 #[mapP N, .int .i64 v] w fun e w' => e = .returned (.int .i64 (plcc c 14 v 0)) ∧ Below w.heap.size w w' := by
  have H := Lib.hid hc; have HM := Lib.hid hm; have HV := Lib.hid hv; have HO := Lib.hid (node_ok hc v)
  rw [← show wordL _ _ _ _ _ v 0 = plcc c 14 v 0 from plc_node hc v 0 (by decide) (by decide)]
  clear hc hm hv
  go_enter Tryz.func48, Tryz.ntmps48
  go_wp2_with (first
    | (go_at_call 68; (with_reducible refine (rowOf_m H.out _ _ _ HM.out).mono ?_); rintro r w1 ⟨rfl, hb1⟩)
    | (go_at_call 71; (with_reducible refine (word_any _ _ HO.out HV.out (by decide) _).mono ?_); rintro r w2 ⟨rfl, hb2⟩))
  go_ret
  exact ⟨rfl, below_then hb1 hb2⟩
theorem state_m {c : Cfg} (hc : OkC c) (N : Nat) (v : Int) (hv : (Lit.int .i64 v).wf = true) (w : World) (hm : IsMap w N c) : Calls Tryz.prog 47 #[mapP N, .int .i64 v] w fun e w' => e = .returned (.int .i64 (plcc c 15 v 0)) ∧ Below w.heap.size w w' := by
  have H := Lib.hid hc; have HM := Lib.hid hm; have HV := Lib.hid hv; have HO := Lib.hid (node_ok hc v)
  rw [← show wordL _ _ _ _ _ v 1 = plcc c 15 v 0 from plc_node hc v 1 (by decide) (by decide)]
  clear hc hm hv
  go_enter Tryz.func47, Tryz.ntmps47
  go_wp2_with (first
    | (go_at_call 68; (with_reducible refine (rowOf_m H.out _ _ _ HM.out).mono ?_); rintro r w1 ⟨rfl, hb1⟩)
    | (go_at_call 71; (with_reducible refine (word_any _ _ HO.out HV.out (by decide) _).mono ?_); rintro r w2 ⟨rfl, hb2⟩))
  go_ret
  exact ⟨rfl, below_then hb1 hb2⟩
theorem mark_m {c : Cfg} (hc : OkC c) (N : Nat) (v : Int) (hv : (Lit.int .i64 v).wf = true) (w : World) (hm : IsMap w N c) : Calls Tryz.prog 27 #[mapP N, .int .i64 v] w fun e w' => e = .returned (.int .i64 (plcc c 16 v 0)) ∧ Below w.heap.size w w' := by
  have H := Lib.hid hc; have HM := Lib.hid hm; have HV := Lib.hid hv; have HO := Lib.hid (node_ok hc v)
  rw [← show wordL _ _ _ _ _ v 2 = plcc c 16 v 0 from plc_node hc v 2 (by decide) (by decide)]
  clear hc hm hv
  go_enter Tryz.func27, Tryz.ntmps27
  go_wp2_with (first
    | (go_at_call 68; (with_reducible refine (rowOf_m H.out _ _ _ HM.out).mono ?_); rintro r w1 ⟨rfl, hb1⟩)
    | (go_at_call 71; (with_reducible refine (word_any _ _ HO.out HV.out (by decide) _).mono ?_); rintro r w2 ⟨rfl, hb2⟩))
  go_ret
  exact ⟨rfl, below_then hb1 hb2⟩
theorem next_m {c : Cfg} (hc : OkC c) (N : Nat) (v : Int) (hv : (Lit.int .i64 v).wf = true) (w : World) (hm : IsMap w N c) : Calls Tryz.prog 51 #[mapP N, .int .i64 v] w fun e w' => e = .returned (.int .i64 (plcc c 17 v 0)) ∧ Below w.heap.size w w' := by
  have H := Lib.hid hc; have HM := Lib.hid hm; have HV := Lib.hid hv; have HO := Lib.hid (node_ok hc v)
  rw [← show wordL _ _ _ _ _ v 3 = plcc c 17 v 0 from plc_node hc v 3 (by decide) (by decide)]
  clear hc hm hv
  go_enter Tryz.func51, Tryz.ntmps51
  go_wp2_with (first
    | (go_at_call 68; (with_reducible refine (rowOf_m H.out _ _ _ HM.out).mono ?_); rintro r w1 ⟨rfl, hb1⟩)
    | (go_at_call 71; (with_reducible refine (word_any _ _ HO.out HV.out (by decide) _).mono ?_); rintro r w2 ⟨rfl, hb2⟩))
  go_ret
  exact ⟨rfl, below_then hb1 hb2⟩
theorem slot_m {c : Cfg} (hc : OkC c) (N : Nat) (v j : Int) (hv : (Lit.int .i64 v).wf = true) (w : World) (hm : IsMap w N c) : Calls Tryz.prog 24 #[mapP N, .int .i64 v, .int .i64 j] w fun e w' => e = .returned (.int .i64 (plcc c 18 v j)) ∧ Below w.heap.size w w' := by
  have H := Lib.hid hc; have HM := Lib.hid hm; have HV := Lib.hid hv; have HO := Lib.hid (node_ok hc v)
  rw [← plc_slot hc v j]
  clear hc hm hv
  go_enter Tryz.func24, Tryz.ntmps24
  go_wp2_with (first
    | (go_at_call 68; (with_reducible refine (rowOf_m H.out _ _ _ HM.out).mono ?_); rintro r w1 ⟨rfl, hb1⟩)
    | (go_at_call 69; (with_reducible refine (item_any _ _ HO.out HV.out _).mono ?_); rintro r w2 ⟨rfl, hb2⟩))
  go_ret
  exact ⟨rfl, below_then hb1 hb2⟩
theorem phase_m {c : Cfg} (hc : OkC c) (N : Nat) (w : World) (hm : IsMap w N c) : Calls Tryz.prog 37 #[mapP N] w fun e w' => e = .returned (.int .i64 (plcc c 0 0 0)) ∧ Below w.heap.size w w' := by
  rw [← plc_single c 0 (by decide) (by decide)]; exact phase_w N hc w hm
theorem work_m {c : Cfg} (hc : OkC c) (N : Nat) (w : World) (hm : IsMap w N c) : Calls Tryz.prog 29 #[mapP N] w fun e w' => e = .returned (.int .i64 (plcc c 1 0 0)) ∧ Below w.heap.size w w' := by
  rw [← plc_single c 1 (by decide) (by decide)]; exact work_w N hc w hm
theorem sweep_m {c : Cfg} (hc : OkC c) (N : Nat) (w : World) (hm : IsMap w N c) : Calls Tryz.prog 62 #[mapP N] w fun e w' => e = .returned (.int .i64 (plcc c 2 0 0)) ∧ Below w.heap.size w w' := by
  rw [← plc_single c 2 (by decide) (by decide)]; exact sweep_w N hc w hm
theorem done_m {c : Cfg} (hc : OkC c) (N : Nat) (w : World) (hm : IsMap w N c) : Calls Tryz.prog 36 #[mapP N] w fun e w' => e = .returned (.int .i64 (plcc c 3 0 0)) ∧ Below w.heap.size w w' := by
  rw [← plc_single c 3 (by decide) (by decide)]; exact done_w N hc w hm
theorem pool_m {c : Cfg} (hc : OkC c) (N : Nat) (w : World) (hm : IsMap w N c) : Calls Tryz.prog 152 #[mapP N] w fun e w' => e = .returned (.int .i64 (plcc c 4 0 0)) ∧ Below w.heap.size w w' := by
  rw [← plc_single c 4 (by decide) (by decide)]; exact pool_w N hc w hm
theorem spare_m {c : Cfg} (hc : OkC c) (N : Nat) (w : World) (hm : IsMap w N c) : Calls Tryz.prog 52 #[mapP N] w fun e w' => e = .returned (.int .i64 (plcc c 5 0 0)) ∧ Below w.heap.size w w' := by
  rw [← plc_single c 5 (by decide) (by decide)]; exact spare_w N hc w hm
theorem head_m {c : Cfg} (hc : OkC c) (N : Nat) (i : Int) (hi : (Lit.int .i64 i).wf = true) (w : World) (hm : IsMap w N c) : Calls Tryz.prog 50 #[mapP N, .int .i64 i] w fun e w' => e = .returned (.int .i64 (plcc c 7 i 0)) ∧ Below w.heap.size w w' := by
  rw [← plc_head hc i]; exact head_w N i hi hc w hm
theorem top_m {c : Cfg} (hc : OkC c) (N : Nat) (i : Int) (hi : (Lit.int .i64 i).wf = true) (w : World) (hm : IsMap w N c) : Calls Tryz.prog 55 #[mapP N, .int .i64 i] w fun e w' => e = .returned (.int .i64 (plcc c 8 i 0)) ∧ Below w.heap.size w w' := by
  rw [← plc_top hc i]; exact top_w N i hi hc w hm
theorem bottom_m {c : Cfg} (hc : OkC c) (N : Nat) (i : Int) (hi : (Lit.int .i64 i).wf = true) (w : World) (hm : IsMap w N c) : Calls Tryz.prog 88 #[mapP N, .int .i64 i] w fun e w' => e = .returned (.int .i64 (plcc c 9 i 0)) ∧ Below w.heap.size w w' := by
  rw [← plc_bottom hc i]; exact bottom_w N i hi hc w hm
theorem many_m {c : Cfg} (hc : OkC c) (N : Nat) (i : Int) (hi : (Lit.int .i64 i).wf = true) (w : World) (hm : IsMap w N c) : Calls Tryz.prog 149 #[mapP N, .int .i64 i] w fun e w' => e = .returned (.int .i64 (plcc c 11 i 0)) ∧ Below w.heap.size w w' := by
  rw [← plc_many hc i]; exact many_w N i hi hc w hm
theorem link_m {c : Cfg} (hc : OkC c) (N : Nat) (i : Int) (hi : (Lit.int .i64 i).wf = true) (w : World) (hm : IsMap w N c) : Calls Tryz.prog 53 #[mapP N, .int .i64 i] w fun e w' => e = .returned (.int .i64 (plcc c 12 i 0)) ∧ Below w.heap.size w w' := by
  rw [← plc_link hc i]; exact link_w N i hi hc w hm
theorem entry_m {c : Cfg} (hc : OkC c) (N : Nat) (i j : Int) (hi : (Lit.int .i64 i).wf = true) (w : World) (hm : IsMap w N c) : Calls Tryz.prog 89 #[mapP N, .int .i64 i, .int .i64 j] w fun e w' => e = .returned (.int .i64 (plcc c 10 i j)) ∧ Below w.heap.size w w' := by
  rw [← plc_entry hc i j]; exact entry_w N i j hi hc w hm
theorem task_m {c : Cfg} (hc : OkC c) (N : Nat) (i j : Int) (hi : (Lit.int .i64 i).wf = true) (w : World) (hm : IsMap w N c) : Calls Tryz.prog 132 #[mapP N, .int .i64 i, .int .i64 j] w fun e w' => e = .returned (.int .i64 (plcc c 13 i j)) ∧ Below w.heap.size w w' := by
  rw [← plc_task hc i j]; exact task_w N i j hi hc w hm
end Go.Proofs.YthoiaffeenhfgaaGreat.Lay
