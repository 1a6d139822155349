/- The map's methods, walked: each tells the document's place. A part's first and last node, and a thing's place by its kind, walked. A thing's place by its kind and numbers, walked. -/
import Derived.Test.YtbpkcoemehmpbaaGreatLayPlc
namespace Go.Proofs.YtbpkcoemehmpbaaGreat.Lay
open Go.RowKit
set_option linter.unusedVariables false

theorem wf_i64 {v : Int} (h0 : -9223372036854775808 ≤ v) (h1 : v ≤ 9223372036854775807) : (Lit.int .i64 v).wf = true := by
  simp [Lit.wf, IntKind.min, IntKind.max, IntKind.signed, IntKind.bits]; omega

theorem cells5 {w : World} {N : Nat} {c : Cfg} (h : IsMap w N c) : w.cell? ⟨N, 0, none⟩ = some (.int .i64 c.a) ∧ w.cell? ⟨N, 1, none⟩ = some (.int .i64 c.b) ∧ w.cell? ⟨N, 2, none⟩ = some (.int .i64 c.c) ∧ w.cell? ⟨N, 3, none⟩ = some (.int .i64 c.d) ∧ w.cell? ⟨N, 4, none⟩ = some (.int .i64 c.e) :=
  ⟨h.2 0 (by omega), h.2 1 (by omega), h.2 2 (by omega), h.2 3 (by omega), h.2 4 (by omega)⟩
theorem cells7 {w : World} {N : Nat} {c : Cfg} (h : IsMap w N c) : w.cell? ⟨N, 5, none⟩ = some (.int .i64 c.mr) ∧ w.cell? ⟨N, 6, none⟩ = some (.int .i64 c.mu) ∧ w.cell? ⟨N, 7, none⟩ = some (.int .i64 c.dq) ∧ w.cell? ⟨N, 8, none⟩ = some (.int .i64 c.ch) ∧ w.cell? ⟨N, 9, none⟩ = some (.int .i64 c.bf) ∧ w.cell? ⟨N, 10, none⟩ = some (.int .i64 c.rt) ∧ w.cell? ⟨N, 11, none⟩ = some (.int .i64 c.sw) :=
  ⟨h.2 5 (by omega), h.2 6 (by omega), h.2 7 (by omega), h.2 8 (by omega), h.2 9 (by omega), h.2 10 (by omega), h.2 11 (by omega)⟩

theorem class_m {c : Cfg} (N : Nat) (v : Int) (w : World) (hm : IsMap w N c) : Calls Tryz.prog 84 #[mapP N, .int .i64 v] w fun e w' => e = .returned (.int .i64 (kindV c v)) ∧ Below w.heap.size w w' := by
  obtain ⟨r0, r1, r2, r3, r4⟩ := cells5 hm
  clear hm
  go_enter Tryz.func84, Tryz.ntmps84
  go_wp2_with (first
    | (go_at_call 61; (with_reducible refine (laid_any _ _).mono ?_); rintro r w1 ⟨rfl, rfl⟩)
    | (go_at_call 92; (with_reducible refine (class_any _ _ _ _ _ _ _).mono ?_); rintro r w1 ⟨rfl, hb1⟩))
  go_ret
  exact ⟨rfl, hb1⟩
theorem class_is {c : Cfg} (N : Nat) (v k : Int) (hk : kindV c v = k) (w : World) (hm : IsMap w N c) : Calls Tryz.prog 84 #[mapP N, .int .i64 v] w fun e w' => e = .returned (.int .i64 k) ∧ Below w.heap.size w w' := by
  subst hk; exact class_m N v w hm
theorem room_m {c : Cfg} (N : Nat) (v : Int) (w : World) (hm : IsMap w N c) : Calls Tryz.prog 53 #[mapP N, .int .i64 v] w fun e w' => e = .returned (.int .i64 (slotsOf (kindV c v))) ∧ Below w.heap.size w w' := by
  have HM := Lib.hid hm; clear hm
  go_enter Tryz.func53, Tryz.ntmps53
  go_wp2_with (first
    | (go_at_call 84; (with_reducible refine (class_m _ _ _ HM.out).mono ?_); rintro r w1 ⟨rfl, hb1⟩)
    | (go_at_call 34; (with_reducible refine (slots_any _ _).mono ?_); rintro r w2 ⟨rfl, rfl⟩))
  go_ret
  exact ⟨rfl, hb1⟩
theorem nodes_m {c : Cfg} (hc : OkC c) (N : Nat) (w : World) (hm : IsMap w N c) : Calls Tryz.prog 37 #[mapP N] w fun e w' => e = .returned (.int .i64 (nodesN c)) ∧ Below w.heap.size w w' := by
  obtain ⟨r0, r1, r2, r3, r4⟩ := cells5 hm
  have H := Lib.hid hc
  clear hm hc
  go_enter Tryz.func37, Tryz.ntmps37
  go_wp2_with (first
    | (go_at_call 61; (with_reducible refine (laid_any _ _).mono ?_); rintro r w1 ⟨rfl, rfl⟩)
    | (go_at_call 67; (with_reducible refine (nodes_ok H.out _).mono ?_); rintro r w1 ⟨rfl, hb1⟩))
  go_ret
  exact ⟨rfl, hb1⟩
theorem common_m {c : Cfg} (hc : OkC c) (N : Nat) (w : World) (hm : IsMap w N c) : Calls Tryz.prog 52 #[mapP N] w fun e w' => e = .returned (.int .i64 (nodesN c)) ∧ Below w.heap.size w w' := by
  have H := Lib.hid hc; have HM := Lib.hid hm
  clear hm hc
  go_enter Tryz.func52, Tryz.ntmps52
  go_wp2_with (first
    | (go_at_call 37; (with_reducible refine (nodes_m H.out _ _ HM.out).mono ?_); rintro r w1 ⟨rfl, hb1⟩)
    | fail)
  go_ret
  exact ⟨rfl, hb1⟩
theorem packets_m {c : Cfg} (N : Nat) (w : World) (hm : IsMap w N c) : Calls Tryz.prog 60 #[mapP N] w fun e w' => e = .returned (.int .i64 (packN c)) ∧ Below w.heap.size w w' := by
  obtain ⟨r0, r1, r2, r3, r4⟩ := row32 hm
  clear hm
  go_enter Tryz.func60, Tryz.ntmps60
  go_wp2_with (first
    | (go_at_call 61; (with_reducible refine (laid_any _ _).mono ?_); rintro r w1 ⟨rfl, rfl⟩)
    | fail)
  go_ret
  exact ⟨rfl, Below.refl _ _⟩
def partsC (c : Cfg) : Int := piecesOf (nodesN c) c.sw
theorem parts_m {c : Cfg} (hc : OkC c) (N : Nat) (w : World) (hm : IsMap w N c) : Calls Tryz.prog 72 #[mapP N] w fun e w' => e = .returned (.int .i64 (partsC c)) ∧ Below w.heap.size w w' := by
  have H := Lib.hid hc; have HM := Lib.hid hm
  have n0 := (bds hc).n0; have n1 := (bds hc).n1; have s1 := hc.w1
  clear hm hc
  go_enter Tryz.func72, Tryz.ntmps72
  go_wp2_with (first
    | (go_at_call 37; (with_reducible refine (nodes_m H.out _ _ HM.out).mono ?_); rintro r w1 ⟨rfl, hb1⟩; have c11 := (cells7 (HM.out.below hb1)).2.2.2.2.2.2)
    | (go_at_call 61; (with_reducible refine (laid_any _ _).mono ?_); rintro r w2 ⟨rfl, rfl⟩)
    | (go_at_call 69; (with_reducible refine (pieces_any _ _ (by omega) (by omega) (by omega) _).mono ?_); rintro r w2 ⟨rfl, rfl⟩))
  go_ret
  exact ⟨rfl, hb1⟩
theorem len_m {c : Cfg} (hc : OkC c) (N : Nat) (w : World) (hm : IsMap w N c) : Calls Tryz.prog 51 #[mapP N] w fun e w' => e = .returned (.int .i64 (at55 c)) ∧ Below w.heap.size w w' := by
  obtain ⟨r0, r1, r2, r3, r4⟩ := row57 hm
  have HK := Lib.hid (ok57 hc)
  have X : endL (at54 c) c.e 4 16 = at55 c := by simp [endL, at55]
  have HX := Lib.hid X
  clear hm hc X
  go_enter Tryz.func51, Tryz.ntmps51
  go_wp2_with (first
    | (go_at_call 61; (with_reducible refine (laid_any _ _).mono ?_); rintro r w1 ⟨rfl, rfl⟩)
    | (go_at_call 68; (with_reducible refine (end_any HK.out _).mono ?_); rintro r w1 ⟨rfl, hb1⟩; rw [HX.out]))
  go_ret
  exact ⟨rfl, hb1⟩
theorem laid_nil (w : World) : Calls Tryz.prog 61 #[.pointer none] w fun e w' => ∃ M, e = .returned (mapP M) ∧ (w'.cell? ⟨M, 0, none⟩ = some (.int .i64 0) ∧ w'.cell? ⟨M, 1, none⟩ = some (.int .i64 0) ∧ w'.cell? ⟨M, 2, none⟩ = some (.int .i64 0) ∧ w'.cell? ⟨M, 3, none⟩ = some (.int .i64 0) ∧ w'.cell? ⟨M, 4, none⟩ = some (.int .i64 0) ∧ w'.cell? ⟨M, 5, none⟩ = some (.int .i64 0) ∧ w'.cell? ⟨M, 6, none⟩ = some (.int .i64 0) ∧ w'.cell? ⟨M, 7, none⟩ = some (.int .i64 0) ∧ w'.cell? ⟨M, 8, none⟩ = some (.int .i64 0) ∧ w'.cell? ⟨M, 9, none⟩ = some (.int .i64 0) ∧ w'.cell? ⟨M, 10, none⟩ = some (.int .i64 0) ∧ w'.cell? ⟨M, 11, none⟩ = some (.int .i64 0)) ∧ Below w.heap.size w w' := by
  go_enter Tryz.func61, Tryz.ntmps61
  go_wp2
  go_ret
  refine ⟨_, rfl, ?_, (Below.refl _ _).alloc (Nat.le_refl _) _⟩
  refine ⟨?_, ?_, ?_, ?_, ?_, ?_, ?_, ?_, ?_, ?_, ?_, ?_⟩
  all_goals (rw [World.cell?_alloc_at _ _ _ _ rfl]; rfl)
def zeroC : Cfg := ⟨0, 0, 0, 0, 0, 0, 0, 0, 0, 0, 0, 0⟩
abbrev zeroV : Value := .agg #[.int .i64 0, .int .i64 0, .int .i64 0, .int .i64 0, .int .i64 0, .int .i64 0, .int .i64 0, .int .i64 0, .int .i64 0, .int .i64 0, .int .i64 0, .int .i64 0]
theorem node_ok {c : Cfg} (h : OkC c) (v : Int) : RowOk (rA c (kindV c v)) (rF c (kindV c v)) (rM c (kindV c v)) (rW (kindV c v)) (slotsOf (kindV c v)) := by
  rcases kindV_cases h v with ⟨hk, _⟩ | ⟨hk, _⟩ | ⟨hk, _⟩ | ⟨hk, _⟩ | ⟨hk, _⟩ | ⟨hk, _⟩
  · rw [hk]; show RowOk 0 0 0 0 0; exact ⟨by decide, by decide, by decide, by decide, by decide, by decide, by decide, by decide, by decide, by decide⟩
  · rw [hk]; exact ok37 h
  · rw [hk]; exact ok42 h
  · rw [hk]; exact ok47 h
  · rw [hk]; exact ok52 h
  · rw [hk]; exact ok57 h

set_option maxHeartbeats 2000000 in
theorem rowOf_m {c : Cfg} (hc : OkC c) (N : Nat) (v : Int) (w : World) (hm : IsMap w N c) : Calls Tryz.prog 64 #[mapP N, .int .i64 v] w fun e w' => e = .returned (rowV (rA c (kindV c v)) (rF c (kindV c v)) (rM c (kindV c v)) (rW (kindV c v)) (slotsOf (kindV c v))) ∧ Below w.heap.size w w' := by
  have hm2 := hm.alloc (.cells #[.int .i64 0, .int .i64 0, .int .i64 0, .int .i64 0, .int .i64 0] 78)
  have HM := Lib.hid hm2
  have HB := Below.refl w.heap.size w
  have hk6 : kindV c v = -1 ∨ kindV c v = 0 ∨ kindV c v = 1 ∨ kindV c v = 2 ∨ kindV c v = 3 ∨ kindV c v = 4 := by
    rcases kindV_cases hc v with ⟨hk, _⟩ | ⟨hk, _⟩ | ⟨hk, _⟩ | ⟨hk, _⟩ | ⟨hk, _⟩ | ⟨hk, _⟩ <;> omega
  clear hm hm2
  rcases hk6 with hk | hk | hk | hk | hk | hk
  · rw [hk]
    show Calls _ _ _ _ fun e w' => e = .returned (rowV 0 0 0 0 0) ∧ _
    have HK := Lib.hid hk
    clear hk
    go_enter Tryz.func64, Tryz.ntmps64
    go_wp2_with (first
      | (go_at_call 84; (with_reducible refine (class_is _ _ _ HK.out _ HM.out).mono ?_); rintro r w1 ⟨rfl, hb1⟩; obtain ⟨hcc, hff⟩ := bcell hb1)
      | fail)
    have HB1 := below_step (below_alloc0 HB _) (by simp) hb1
    have hz := hb1.size
    refine bodyPost_ret (v := rowV 0 0 0 0 0) (by simp [results, Tryz.results64, go_sem, hcc]) rfl ⟨rfl, ?_⟩
    go_grown
  · rw [hk]
    show Calls _ _ _ _ fun e w' => e = .returned (rowV (at50 c) 1 c.a 4 1) ∧ _
    have HK := Lib.hid hk
    clear hk
    go_enter Tryz.func64, Tryz.ntmps64
    go_wp2_with (first
      | (go_at_call 84; (with_reducible refine (class_is _ _ _ HK.out _ HM.out).mono ?_); rintro r w1 ⟨rfl, hb1⟩; obtain ⟨hcc, hff⟩ := bcell hb1; obtain ⟨r0, r1, r2, r3, r4⟩ := row37 (HM.out.below hb1))
      | fail)
    have HB1 := below_step (below_alloc0 HB _) (by simp) hb1
    have hz := hb1.size
    refine bodyPost_ret (v := rowV (at50 c) 1 c.a 4 1) (by simp [results, Tryz.results64, go_sem, hcc]) rfl ⟨rfl, ?_⟩
    go_grown
  · rw [hk]
    show Calls _ _ _ _ fun e w' => e = .returned (rowV (at51 c) (1 + c.a) c.b 4 2) ∧ _
    have HK := Lib.hid hk
    clear hk
    go_enter Tryz.func64, Tryz.ntmps64
    go_wp2_with (first
      | (go_at_call 84; (with_reducible refine (class_is _ _ _ HK.out _ HM.out).mono ?_); rintro r w1 ⟨rfl, hb1⟩; obtain ⟨hcc, hff⟩ := bcell hb1; obtain ⟨r0, r1, r2, r3, r4⟩ := row42 (HM.out.below hb1))
      | fail)
    have HB1 := below_step (below_alloc0 HB _) (by simp) hb1
    have hz := hb1.size
    refine bodyPost_ret (v := rowV (at51 c) (1 + c.a) c.b 4 2) (by simp [results, Tryz.results64, go_sem, hcc]) rfl ⟨rfl, ?_⟩
    go_grown
  · rw [hk]
    show Calls _ _ _ _ fun e w' => e = .returned (rowV (at52 c) (1 + c.a + c.b) c.c 4 4) ∧ _
    have HK := Lib.hid hk
    clear hk
    go_enter Tryz.func64, Tryz.ntmps64
    go_wp2_with (first
      | (go_at_call 84; (with_reducible refine (class_is _ _ _ HK.out _ HM.out).mono ?_); rintro r w1 ⟨rfl, hb1⟩; obtain ⟨hcc, hff⟩ := bcell hb1; obtain ⟨r0, r1, r2, r3, r4⟩ := row47 (HM.out.below hb1))
      | fail)
    have HB1 := below_step (below_alloc0 HB _) (by simp) hb1
    have hz := hb1.size
    refine bodyPost_ret (v := rowV (at52 c) (1 + c.a + c.b) c.c 4 4) (by simp [results, Tryz.results64, go_sem, hcc]) rfl ⟨rfl, ?_⟩
    go_grown
  · rw [hk]
    show Calls _ _ _ _ fun e w' => e = .returned (rowV (at53 c) (1 + c.a + c.b + c.c) c.d 4 8) ∧ _
    have HK := Lib.hid hk
    clear hk
    go_enter Tryz.func64, Tryz.ntmps64
    go_wp2_with (first
      | (go_at_call 84; (with_reducible refine (class_is _ _ _ HK.out _ HM.out).mono ?_); rintro r w1 ⟨rfl, hb1⟩; obtain ⟨hcc, hff⟩ := bcell hb1; obtain ⟨r0, r1, r2, r3, r4⟩ := row52 (HM.out.below hb1))
      | fail)
    have HB1 := below_step (below_alloc0 HB _) (by simp) hb1
    have hz := hb1.size
    refine bodyPost_ret (v := rowV (at53 c) (1 + c.a + c.b + c.c) c.d 4 8) (by simp [results, Tryz.results64, go_sem, hcc]) rfl ⟨rfl, ?_⟩
    go_grown
  · rw [hk]
    show Calls _ _ _ _ fun e w' => e = .returned (rowV (at54 c) (1 + c.a + c.b + c.c + c.d) c.e 4 16) ∧ _
    have HK := Lib.hid hk
    clear hk
    go_enter Tryz.func64, Tryz.ntmps64
    go_wp2_with (first
      | (go_at_call 84; (with_reducible refine (class_is _ _ _ HK.out _ HM.out).mono ?_); rintro r w1 ⟨rfl, hb1⟩; obtain ⟨hcc, hff⟩ := bcell hb1; obtain ⟨r0, r1, r2, r3, r4⟩ := row57 (HM.out.below hb1))
      | fail)
    have HB1 := below_step (below_alloc0 HB _) (by simp) hb1
    have hz := hb1.size
    refine bodyPost_ret (v := rowV (at54 c) (1 + c.a + c.b + c.c + c.d) c.e 4 16) (by simp [results, Tryz.results64, go_sem, hcc]) rfl ⟨rfl, ?_⟩
    go_grown

theorem header_m {c : Cfg} (hc : OkC c) (N : Nat) (v : Int) (hv : (Lit.int .i64 v).wf = true) (w : World) (hm : IsMap w N c) : Calls Tryz.prog 54 #[mapP N, .int .i64 v] w fun e w' => e = .returned (.int .i64 (plcc c 14 v 0)) ∧ Below w.heap.size w w' := by
  have H := Lib.hid hc; have HM := Lib.hid hm; have HV := Lib.hid hv; have HO := Lib.hid (node_ok hc v)
  rw [← show wordL _ _ _ _ _ v 0 = plcc c 14 v 0 from plc_node hc v 0 (by decide) (by decide)]
  clear hc hm hv
  go_enter Tryz.func54, Tryz.ntmps54
  go_wp2_with (first
    | (go_at_call 64; (with_reducible refine (rowOf_m H.out _ _ _ HM.out).mono ?_); rintro r w1 ⟨rfl, hb1⟩)
    | (go_at_call 62; (with_reducible refine (word_any _ _ HO.out HV.out (by decide) _).mono ?_); rintro r w2 ⟨rfl, hb2⟩))
  go_ret
  exact ⟨rfl, below_then hb1 hb2⟩

theorem state_m {c : Cfg} (hc : OkC c) (N : Nat) (v : Int) (hv : (Lit.int .i64 v).wf = true) (w : World) (hm : IsMap w N c) : Calls Tryz.prog 25 #[mapP N, .int .i64 v] w fun e w' => e = .returned (.int .i64 (plcc c 15 v 0)) ∧ Below w.heap.size w w' := by
  have H := Lib.hid hc; have HM := Lib.hid hm; have HV := Lib.hid hv; have HO := Lib.hid (node_ok hc v)
  rw [← show wordL _ _ _ _ _ v 1 = plcc c 15 v 0 from plc_node hc v 1 (by decide) (by decide)]
  clear hc hm hv
  go_enter Tryz.func25, Tryz.ntmps25
  go_wp2_with (first
    | (go_at_call 64; (with_reducible refine (rowOf_m H.out _ _ _ HM.out).mono ?_); rintro r w1 ⟨rfl, hb1⟩)
    | (go_at_call 62; (with_reducible refine (word_any _ _ HO.out HV.out (by decide) _).mono ?_); rintro r w2 ⟨rfl, hb2⟩))
  go_ret
  exact ⟨rfl, below_then hb1 hb2⟩

theorem mark_m {c : Cfg} (hc : OkC c) (N : Nat) (v : Int) (hv : (Lit.int .i64 v).wf = true) (w : World) (hm : IsMap w N c) : Calls Tryz.prog 26 #[mapP N, .int .i64 v] w fun e w' => e = .returned (.int .i64 (plcc c 16 v 0)) ∧ Below w.heap.size w w' := by
  have H := Lib.hid hc; have HM := Lib.hid hm; have HV := Lib.hid hv; have HO := Lib.hid (node_ok hc v)
  rw [← show wordL _ _ _ _ _ v 2 = plcc c 16 v 0 from plc_node hc v 2 (by decide) (by decide)]
  clear hc hm hv
  go_enter Tryz.func26, Tryz.ntmps26
  go_wp2_with (first
    | (go_at_call 64; (with_reducible refine (rowOf_m H.out _ _ _ HM.out).mono ?_); rintro r w1 ⟨rfl, hb1⟩)
    | (go_at_call 62; (with_reducible refine (word_any _ _ HO.out HV.out (by decide) _).mono ?_); rintro r w2 ⟨rfl, hb2⟩))
  go_ret
  exact ⟨rfl, below_then hb1 hb2⟩

theorem next_m {c : Cfg} (hc : OkC c) (N : Nat) (v : Int) (hv : (Lit.int .i64 v).wf = true) (w : World) (hm : IsMap w N c) : Calls Tryz.prog 57 #[mapP N, .int .i64 v] w fun e w' => e = .returned (.int .i64 (plcc c 17 v 0)) ∧ Below w.heap.size w w' := by
  have H := Lib.hid hc; have HM := Lib.hid hm; have HV := Lib.hid hv; have HO := Lib.hid (node_ok hc v)
  rw [← show wordL _ _ _ _ _ v 3 = plcc c 17 v 0 from plc_node hc v 3 (by decide) (by decide)]
  clear hc hm hv
  go_enter Tryz.func57, Tryz.ntmps57
  go_wp2_with (first
    | (go_at_call 64; (with_reducible refine (rowOf_m H.out _ _ _ HM.out).mono ?_); rintro r w1 ⟨rfl, hb1⟩)
    | (go_at_call 62; (with_reducible refine (word_any _ _ HO.out HV.out (by decide) _).mono ?_); rintro r w2 ⟨rfl, hb2⟩))
  go_ret
  exact ⟨rfl, below_then hb1 hb2⟩

theorem sweep_m {c : Cfg} (hc : OkC c) (N : Nat) (w : World) (hm : IsMap w N c) : Calls Tryz.prog 23 #[mapP N] w fun e w' => e = .returned (.int .i64 (plcc c 2 0 0)) ∧ Below w.heap.size w w' := by
  rw [← plc_single c 2 (by decide) (by decide)]; exact sweep_w N hc w hm
theorem done_m {c : Cfg} (hc : OkC c) (N : Nat) (w : World) (hm : IsMap w N c) : Calls Tryz.prog 28 #[mapP N] w fun e w' => e = .returned (.int .i64 (plcc c 3 0 0)) ∧ Below w.heap.size w w' := by
  rw [← plc_single c 3 (by decide) (by decide)]; exact done_w N hc w hm
theorem spare_m {c : Cfg} (hc : OkC c) (N : Nat) (w : World) (hm : IsMap w N c) : Calls Tryz.prog 58 #[mapP N] w fun e w' => e = .returned (.int .i64 (plcc c 5 0 0)) ∧ Below w.heap.size w w' := by
  rw [← plc_single c 5 (by decide) (by decide)]; exact spare_w N hc w hm
theorem head_m {c : Cfg} (hc : OkC c) (N : Nat) (i : Int) (hi : (Lit.int .i64 i).wf = true) (w : World) (hm : IsMap w N c) : Calls Tryz.prog 56 #[mapP N, .int .i64 i] w fun e w' => e = .returned (.int .i64 (plcc c 7 i 0)) ∧ Below w.heap.size w w' := by
  rw [← plc_head hc i]; exact head_w N i hi hc w hm
theorem link_m {c : Cfg} (hc : OkC c) (N : Nat) (i : Int) (hi : (Lit.int .i64 i).wf = true) (w : World) (hm : IsMap w N c) : Calls Tryz.prog 59 #[mapP N, .int .i64 i] w fun e w' => e = .returned (.int .i64 (plcc c 12 i 0)) ∧ Below w.heap.size w w' := by
  rw [← plc_link hc i]; exact link_w N i hi hc w hm
end Go.Proofs.YtbpkcoemehmpbaaGreat.Lay

namespace Go.Proofs.YtbpkcoemehmpbaaGreat.Lay
open Go.RowKit
set_option linter.unusedVariables false

theorem IsMap.sw {w : World} {N : Nat} {c : Cfg} (h : IsMap w N c) : w.cell? ⟨N, 11, none⟩ = some (.int .i64 c.sw) ∧ IsMap w N c := ⟨h.2 11 (by omega), h⟩
theorem IsMap.more {X : Prop} {N : Nat} {c : Cfg} {w' w2 : World} (h : X ∧ IsMap w' N c) (hb : Below w'.heap.size w' w2) : IsMap w2 N c := h.2.below hb

theorem parts_bd' {c : Cfg} (h : OkC c) : 0 ≤ partsC c ∧ partsC c ≤ 60 ∧ (∀ j, 0 ≤ j → j < partsC c → j * c.sw + 1 ≤ nodesN c) := by
  have n0 := (bds h).n0; have n1 := (bds h).n1; have s0 := h.w0; have s1 := h.w1
  have hp : partsC c = (nodesN c + c.sw - 1) / c.sw := by unfold partsC piecesOf; rw [if_neg (by omega)]
  refine ⟨by rw [hp]; exact Int.ediv_nonneg (by omega) (by omega), ?_, fun j h0 hj => ?_⟩
  · have : partsC c < 61 := by
      rw [hp]
      refine Int.ediv_lt_of_lt_mul (by omega) ?_
      have : 61 * 1 ≤ 61 * c.sw := Int.mul_le_mul_of_nonneg_left s0 (by decide)
      have h2 : (61 : Int) * c.sw = 60 * c.sw + c.sw := by omega
      have : 60 * 1 ≤ 60 * c.sw := Int.mul_le_mul_of_nonneg_left s0 (by decide)
      omega
    omega
  · have h1 : j + 1 ≤ (nodesN c + c.sw - 1) / c.sw := by omega
    have h2 := (Int.le_ediv_iff_mul_le (by omega : 0 < c.sw)).1 h1
    rw [Int.add_mul] at h2; omega

set_option maxHeartbeats 2000000 in
set_option maxRecDepth 100000 in
theorem part_yes {c : Cfg} (hc : OkC c) (N : Nat) (j : Int) (h0 : 0 ≤ j) (hj : j < partsC c) (w : World) (hm : IsMap w N c) :
    Calls Tryz.prog 89 #[mapP N, .int .i64 j] w fun e w' => e = .returned (.tuple #[.int .i64 (j * c.sw + 1), .int .i64 (imin (j * c.sw + 1 + c.sw - 1) (nodesN c))]) ∧ Below w.heap.size w w' := by
  have H := Lib.hid hc; have HM := Lib.hid hm
  obtain ⟨p0, p1, p2⟩ := parts_bd' hc
  have p3 := p2 j h0 hj
  have s0 := hc.w0; have s1 := hc.w1; have n0 := (bds hc).n0; have n1 := (bds hc).n1
  have p4 : 0 ≤ j * c.sw := Int.mul_nonneg h0 (by omega)
  have hw1 : IntKind.i64.wrap (j * c.sw + 1 + c.sw) = j * c.sw + 1 + c.sw := IntWalk.i64_in _ (by omega)
  have hw2 : IntKind.i64.wrap (j * c.sw + 1 + c.sw - 1) = j * c.sw + 1 + c.sw - 1 := IntWalk.i64_in _ (by omega)
  clear hm hc p2
  go_enter Tryz.func89, Tryz.ntmps89
  go_wp2_with (first
    | (go_at_call 72; (with_reducible refine (parts_m H.out _ _ HM.out).mono ?_); rintro r w1 ⟨rfl, hb1⟩; have hm1 := HM.out.below hb1; have c11 := (cells7 hm1).2.2.2.2.2.2)
    | (go_at_call 66; (with_reducible refine (within_yes _ _ _ (by omega) _).mono ?_); rintro r w2 ⟨rfl, rfl⟩))
  have HM1 := Lib.hid hm1
  go_region_held3 (fun w' => w'.cell? ⟨N, 11, none⟩ = some (.int .i64 c.sw) ∧ IsMap w' N c)
    (first | exact IsMap.sw (IsMap.drew HM1.out) | exact IsMap.sw (by assumption) | fail)
    (first
      | (go_at_call 37; (with_reducible refine (nodes_m H.out _ _ (IsMap.drew HM1.out)).mono ?_); rintro r w4 ⟨rfl, hb4⟩; have hm4 := (IsMap.drew HM1.out).below hb4)
      | fail)
  all_goals go_wp2_with (fail)
  all_goals go_ret2
  all_goals exact ⟨rfl, below_then hb1 ((Below.refl _ _).drew.trans hb4)⟩
theorem part_no {c : Cfg} (hc : OkC c) (N : Nat) (j : Int) (hj : ¬ (0 ≤ j ∧ j ≤ partsC c - 1)) (w : World) (hm : IsMap w N c) :
    Calls Tryz.prog 89 #[mapP N, .int .i64 j] w fun e w' => e = .returned (.tuple #[.int .i64 0, .int .i64 (-1)]) ∧ Below w.heap.size w w' := by
  have H := Lib.hid hc; have HM := Lib.hid hm
  obtain ⟨p0, p1, p2⟩ := parts_bd' hc
  have HJ := Lib.hid hj
  clear hm hc p2 hj
  go_enter Tryz.func89, Tryz.ntmps89
  go_wp2_with (first
    | (go_at_call 72; (with_reducible refine (parts_m H.out _ _ HM.out).mono ?_); rintro r w1 ⟨rfl, hb1⟩)
    | (go_at_call 66; (with_reducible refine (within_no _ _ _ HJ.out _).mono ?_); rintro r w2 ⟨rfl, rfl⟩))
  go_ret2
  exact ⟨rfl, hb1⟩
end Go.Proofs.YtbpkcoemehmpbaaGreat.Lay

namespace Go.Proofs.YtbpkcoemehmpbaaGreat.Lay
open Go.RowKit
set_option linter.unusedVariables false

theorem plc_b0 (c : Sh) (k a b : Int) (h0 : 6 ≤ k) (h : k ≤ 9 ∨ k = 11 ∨ k = 12 ∨ (14 ≤ k ∧ k ≤ 17)) : plc c ⟨k, a, b⟩ = plc c ⟨k, a, 0⟩ := by
  have : k = 6 ∨ k = 7 ∨ k = 8 ∨ k = 9 ∨ k = 11 ∨ k = 12 ∨ k = 14 ∨ k = 15 ∨ k = 16 ∨ k = 17 := by omega
  rcases this with rfl | rfl | rfl | rfl | rfl | rfl | rfl | rfl | rfl | rfl <;> rfl
theorem plc_ab0 (c : Sh) (k a b : Int) (h0 : 0 ≤ k) (h : k ≤ 5) : plc c ⟨k, a, b⟩ = plc c ⟨k, 0, 0⟩ := by
  have : k = 0 ∨ k = 1 ∨ k = 2 ∨ k = 3 ∨ k = 4 ∨ k = 5 := by omega
  rcases this with rfl | rfl | rfl | rfl | rfl | rfl <;> rfl

end Go.Proofs.YtbpkcoemehmpbaaGreat.Lay
