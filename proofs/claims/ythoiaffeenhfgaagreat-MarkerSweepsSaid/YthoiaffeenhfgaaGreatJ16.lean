/-  -/
import Derived.Test.YthoiaffeenhfgaaGreatJ8
namespace Go.Proofs.YthoiaffeenhfgaaGreat.Dg
open Go.RowKit
set_option linter.unusedVariables false
set_option maxRecDepth 100000
variable {w0 : World} {M S D : Nat} {e : En} {nx : Value} {t b v r x : Int} {L : List Int} {c : Int}
structure EnOk (e : En) : Prop where
  lo : -1000000000 ≤ e.ent
  hi : e.ent ≤ 1000000000
  room : e.room ≤ 1000000000
theorem EnOk.rm (h : EnOk e) : 1 ≤ roomOf e ∧ roomOf e ≤ 1000000000 := by
  have := h.room
  unfold roomOf; split <;> omega
set_option maxHeartbeats 1000000 in
theorem place_any (n : Int) (h : EnOk e) (hn : 0 ≤ n) (w : World) :
    Calls Tryz.prog 154 #[.agg #[.int .i64 e.top, .int .i64 e.bot, .int .i64 e.ent, .int .i64 (roomOf e)], .int .u64 n] w fun a w' => a = .returned (.int .i64 (entOf e n)) ∧ Below w.heap.size w w' := by
  obtain ⟨r0, r1⟩ := h.rm
  have h0 := h.lo
  have h1 := h.hi
  obtain ⟨R, hR⟩ : ∃ R, R = roomOf e := ⟨_, rfl⟩
  obtain ⟨z, hz⟩ : ∃ z, z = entOf e n := ⟨_, rfl⟩
  have hz2 := hz
  unfold entOf at hz2
  rw [← hz]
  rw [← hR] at hz2 r0 r1 ⊢
  have m0 : 0 ≤ n % R := Int.emod_nonneg _ (by omega)
  have m1 : n % R < R := Int.emod_lt_of_pos _ (by omega)
  have e1 : IntKind.u64.wrap R = R := by rw [IntKind.wrap_u64]; omega
  have e2 : n.tmod R = n % R := Int.tmod_eq_emod_of_nonneg hn
  obtain ⟨y, hy⟩ : ∃ y, y = n % R := ⟨_, rfl⟩
  rw [← hy] at e2 hz2 m0 m1
  have e3 : IntKind.i64.wrap y = y := by rw [IntKind.wrap_i64]; omega
  have e5 : IntKind.u64.wrap y = y := by rw [IntKind.wrap_u64]; omega
  have e4 : IntKind.i64.wrap (e.ent + y) = z := by rw [IntKind.wrap_i64]; omega
  have hne : (R == 0) = false := by rw [beq_eq_false_iff_ne]; omega
  have hne2 : ¬ R = 0 := by omega
  clear hz hz2 hR hy
  go_enter Tryz.func154, Tryz.ntmps154
  go_wp2
  go_quiet (fail)
  go_wp2
  go_ret
  exact ⟨rfl, below_drewN ((Below.refl _ _).alloc (Nat.le_refl _) _) _⟩
theorem Mst.cs {w : World} (h : Mst w0 w M S D e nx t b v r x L c) : w.cell? ⟨M, 0, none⟩ = some (.int .i64 e.top) ∧ w.cell? ⟨M, 1, none⟩ = some (.int .i64 e.bot) ∧ w.cell? ⟨M, 2, none⟩ = some (.int .i64 e.ent) ∧ w.cell? ⟨M, 3, none⟩ = some (.int .i64 (roomOf e)) ∧ w.cell? ⟨M, 5, none⟩ = some (.int .u64 t) ∧ w.cell? ⟨M, 6, none⟩ = some (.int .u64 b) :=
  ⟨h.c0, h.c1, h.c2, h.c3, h.c5, h.c6⟩
set_option maxHeartbeats 1000000 in
theorem seeRoom_any (w : World) (h : Mst w0 w M S D e nx t b v r x L c) (h0 : 0 ≤ c) (h1 : c ≤ 1000000000) :
    Calls Tryz.prog 117 #[ptr M, ptr S] w fun a w' => a = .returned (.tuple #[]) ∧
      Mst w0 w' M S D e (if roomOf e ≤ aheadOf b (ldv L e.top) then .nilFunc else fnv 136 M) (ldv L e.top) b v (if roomOf e ≤ aheadOf b (ldv L e.top) then 2 else r) (if roomOf e ≤ aheadOf b (ldv L e.top) then 0 else x) L (c + 1) := by
  have hmf : ∀ (fn : Fn) (first cap : Array Value) (w : World), (Instr.makeFunc fn first cap).run Tryz.prog w = .ok (.func fn first cap) w := fun _ _ _ _ => rfl
  have c1 := h.c0
  have H := Lib.hid h; clear h
  obtain ⟨T, hT⟩ : ∃ T, T = ldv L e.top := ⟨_, rfl⟩
  obtain ⟨A, hA⟩ : ∃ A, A = aheadOf b T := ⟨_, rfl⟩
  rw [← hT, ← hA]
  have HT := Lib.hid hT; have HA := Lib.hid hA; clear hT hA
  have HR : ∀ B : Bool, decide (roomOf e ≤ A) = B → Calls Tryz.prog 117 #[ptr M, ptr S] w fun a w' => a = .returned (.tuple #[]) ∧
      Mst w0 w' M S D e (if B = true then .nilFunc else fnv 136 M) T b v (if B = true then 2 else r) (if B = true then 0 else x) L (c + 1) := by
    intro B hB
    go_enter Tryz.func117, Tryz.ntmps117
    go_wp2_with (first
      | (go_at_call 25; (with_reducible refine (load_any _ _ H.out.st h0 h1).mono ?_); rintro r w1 ⟨rfl, hk⟩; rw [← HT.out]; have HK := Lib.hid (H.out.left hk); have c5 := HK.out.c5; have f5 := HK.out.f 5; have HL := Lib.hid (HK.out.p5 T); clear hk)
      | fail)
    obtain ⟨W, hW, hm⟩ : ∃ W, W = _ ∧ Mst w0 W M S D e nx T b v r x L (c + 1) := ⟨_, rfl, HL.out⟩
    rw [← hW]
    obtain ⟨q0, q1, q2, q3, q5, q6⟩ := hm.cs
    have HM := Lib.hid hm; have HMD := Lib.hid hm.drew
    clear hm HL HK c5 f5 hW
    go_region_held3 (fun w' => w'.cell? ⟨M, 0, none⟩ = some (.int .i64 e.top) ∧ w'.cell? ⟨M, 1, none⟩ = some (.int .i64 e.bot) ∧ w'.cell? ⟨M, 2, none⟩ = some (.int .i64 e.ent) ∧ w'.cell? ⟨M, 3, none⟩ = some (.int .i64 (roomOf e)) ∧ w'.cell? ⟨M, 5, none⟩ = some (.int .u64 T) ∧ w'.cell? ⟨M, 6, none⟩ = some (.int .u64 b))
      (first | exact HN.out.cs | exact HMD.out.cs | go_keep)
      (first
        | (go_at_call 134; (with_reducible refine (ahead_walk _ _ _).mono ?_); rintro r w3 ⟨rfl, hb⟩; rw [← HA.out]; have HN := Lib.hid (HMD.out.step hb); clear hb; have c4 := HN.out.c4; have f4 := HN.out.f 4; have HE := Lib.hid (HN.out.p4 (fnv 136 M)))
        | fail)
    clear q0 q1 q2 q3 q5 q6 HM HMD
    cases B
    · go_wp2
      go_returns
      exact ⟨rfl, HE.out⟩
    · go_wp2_with (first
        | (go_at_call 135; (with_reducible refine (finish_any 2 0 _ HN.out).mono ?_); rintro r w4 ⟨rfl, hz⟩)
        | fail)
      go_returns
      exact ⟨rfl, hz⟩
  by_cases hc : roomOf e ≤ A
  · simpa [hc] using HR true (by simpa using hc)
  · simpa [hc] using HR false (by simpa using hc)
end Go.Proofs.YthoiaffeenhfgaaGreat.Dg

namespace Go.Proofs.YthoiaffeenhfgaaGreat.Dg
open Go.RowKit
set_option linter.unusedVariables false
set_option maxRecDepth 100000
set_option linter.unusedSimpArgs false
variable {w0 : World} {M S D : Nat} {e : En} {nx : Value} {t b v r x : Int} {L : List Int} {c : Int}
set_option maxHeartbeats 1000000 in
theorem contend_any (w : World) (h : Mst w0 w M S D e nx t b v r x L c) (h0 : 0 ≤ c) (h1 : c ≤ 1000000000) :
    Calls Tryz.prog 195 #[ptr M, ptr S] w fun a w' => a = .returned (.tuple #[]) ∧
      Mst w0 w' M S D e (if swB L e.top t = true then fnv 204 M else fnv 184 M) t b v (if swB L e.top t = true then r else r) (if swB L e.top t = true then x else x) (swv L e.top t (IntKind.u64.wrap (t + 1))) (c + 1) := by
  have hmf : ∀ (fn : Fn) (first cap : Array Value) (w : World), (Instr.makeFunc fn first cap).run Tryz.prog w = .ok (.func fn first cap) w := fun _ _ _ _ => rfl
  obtain ⟨q0, q1, q2, q3, q5, q6⟩ := h.cs
  have q7 := h.c7
  obtain ⟨y, hy⟩ : ∃ y, y = IntKind.u64.wrap (t + 1) := ⟨_, rfl⟩
  rw [← hy]
  have hy' := hy.symm; clear hy
  have HD := Lib.hid h.drew; clear h
  obtain ⟨B, hB⟩ : ∃ B, B = swB L e.top t := ⟨_, rfl⟩
  rw [← hB]
  have HB := Lib.hid hB; clear hB
  cases B
  · simp only [if_true, if_false, Bool.false_eq_true]
    go_enter Tryz.func195, Tryz.ntmps195
    go_wp2
    go_still_tail 15, (by kernel_rfl)
    change wpList _ _ _ _ _ w.drew
    go_wp2_with (first
      | (go_at_call 143; (with_reducible refine (swap_any _ _ _ _ HD.out.st h0 h1).mono ?_); rintro r w1 ⟨rfl, hk⟩; rw [← HB.out]; have HK := Lib.hid (HD.out.left hk); clear hk; have c4 := HK.out.c4; have f4 := HK.out.f 4; have c7 := HK.out.c7; have HE := Lib.hid (HK.out.p4 (fnv 184 M)))
      | fail)
    go_returns
    exact ⟨rfl, HE.out⟩
  · simp only [if_true, if_false, Bool.false_eq_true]
    go_enter Tryz.func195, Tryz.ntmps195
    go_wp2
    go_still_tail 15, (by kernel_rfl)
    change wpList _ _ _ _ _ w.drew
    go_wp2_with (first
      | (go_at_call 143; (with_reducible refine (swap_any _ _ _ _ HD.out.st h0 h1).mono ?_); rintro r w1 ⟨rfl, hk⟩; rw [← HB.out]; have HK := Lib.hid (HD.out.left hk); clear hk; have c4 := HK.out.c4; have f4 := HK.out.f 4; have c7 := HK.out.c7; have HE := Lib.hid (HK.out.p4 (fnv 204 M)))
      | fail)
    go_returns
    exact ⟨rfl, HE.out⟩
set_option maxHeartbeats 1000000 in
theorem takeFirst_any (w : World) (h : Mst w0 w M S D e nx t b v r x L c) (h0 : 0 ≤ c) (h1 : c ≤ 1000000000) :
    Calls Tryz.prog 214 #[ptr M, ptr S] w fun a w' => a = .returned (.tuple #[]) ∧
      Mst w0 w' M S D e (if swB L e.top t = true then .nilFunc else .nilFunc) t b v (if swB L e.top t = true then 1 else 4) (if swB L e.top t = true then v else 0) (swv L e.top t (IntKind.u64.wrap (t + 1))) (c + 1) := by
  have hmf : ∀ (fn : Fn) (first cap : Array Value) (w : World), (Instr.makeFunc fn first cap).run Tryz.prog w = .ok (.func fn first cap) w := fun _ _ _ _ => rfl
  obtain ⟨q0, q1, q2, q3, q5, q6⟩ := h.cs
  have q7 := h.c7
  obtain ⟨y, hy⟩ : ∃ y, y = IntKind.u64.wrap (t + 1) := ⟨_, rfl⟩
  rw [← hy]
  have hy' := hy.symm; clear hy
  have HD := Lib.hid h.drew; clear h
  obtain ⟨B, hB⟩ : ∃ B, B = swB L e.top t := ⟨_, rfl⟩
  rw [← hB]
  have HB := Lib.hid hB; clear hB
  cases B
  · simp only [if_true, if_false, Bool.false_eq_true]
    go_enter Tryz.func214, Tryz.ntmps214
    go_wp2
    go_still_tail 15, (by kernel_rfl)
    change wpList _ _ _ _ _ w.drew
    go_wp2_with (first
      | (go_at_call 143; (with_reducible refine (swap_any _ _ _ _ HD.out.st h0 h1).mono ?_); rintro r w1 ⟨rfl, hk⟩; rw [← HB.out]; have HK := Lib.hid (HD.out.left hk); clear hk; have c4 := HK.out.c4; have f4 := HK.out.f 4; have c7 := HK.out.c7)
      | (go_at_call 135; (with_reducible refine (finish_any 4 0 _ HK.out).mono ?_); rintro r w4 ⟨rfl, hz⟩)
      | fail)
    go_returns
    exact ⟨rfl, hz⟩
  · simp only [if_true, if_false, Bool.false_eq_true]
    go_enter Tryz.func214, Tryz.ntmps214
    go_wp2
    go_still_tail 15, (by kernel_rfl)
    change wpList _ _ _ _ _ w.drew
    go_wp2_with (first
      | (go_at_call 143; (with_reducible refine (swap_any _ _ _ _ HD.out.st h0 h1).mono ?_); rintro r w1 ⟨rfl, hk⟩; rw [← HB.out]; have HK := Lib.hid (HD.out.left hk); clear hk; have c4 := HK.out.c4; have f4 := HK.out.f 4; have c7 := HK.out.c7)
      | (go_at_call 135; (with_reducible refine (finish_any 1 v _ HK.out).mono ?_); rintro r w4 ⟨rfl, hz⟩)
      | fail)
    go_returns
    exact ⟨rfl, hz⟩
end Go.Proofs.YthoiaffeenhfgaaGreat.Dg

namespace Go.Proofs.YthoiaffeenhfgaaGreat.Dg
open Go.RowKit
set_option linter.unusedVariables false
set_option maxRecDepth 100000
variable {w0 : World} {M S D : Nat} {e : En} {nx : Value} {t b v r x : Int} {L : List Int} {c : Int}
theorem Mst.cs7 {w : World} (h : Mst w0 w M S D e nx t b v r x L c) : w.cell? ⟨M, 0, none⟩ = some (.int .i64 e.top) ∧ w.cell? ⟨M, 1, none⟩ = some (.int .i64 e.bot) ∧ w.cell? ⟨M, 2, none⟩ = some (.int .i64 e.ent) ∧ w.cell? ⟨M, 3, none⟩ = some (.int .i64 (roomOf e)) ∧ w.cell? ⟨M, 5, none⟩ = some (.int .u64 t) ∧ w.cell? ⟨M, 6, none⟩ = some (.int .u64 b) ∧ w.cell? ⟨M, 7, none⟩ = some (.int .u64 v) :=
  ⟨h.c0, h.c1, h.c2, h.c3, h.c5, h.c6, h.c7⟩
set_option maxHeartbeats 1000000 in
theorem putEntry_any (w : World) (h : Mst w0 w M S D e nx t b v r x L c) (h0 : 0 ≤ c) (h1 : c ≤ 1000000000) (ok : EnOk e) (hb0 : 0 ≤ b) :
    Calls Tryz.prog 136 #[ptr M, ptr S] w fun a w' => a = .returned (.tuple #[]) ∧ Mst w0 w' M S D e (fnv 155 M) t b v r x (ptv L (entOf e b) v) (c + 1) := by
  have hmf : ∀ (fn : Fn) (first cap : Array Value) (w : World), (Instr.makeFunc fn first cap).run Tryz.prog w = .ok (.func fn first cap) w := fun _ _ _ _ => rfl
  obtain ⟨q0, q1, q2, q3, q5, q6, q7⟩ := h.cs7
  have HMD := Lib.hid h.drew; clear h
  go_enter Tryz.func136, Tryz.ntmps136
  go_wp2
  go_region_held3 (fun w' => w'.cell? ⟨M, 0, none⟩ = some (.int .i64 e.top) ∧ w'.cell? ⟨M, 1, none⟩ = some (.int .i64 e.bot) ∧ w'.cell? ⟨M, 2, none⟩ = some (.int .i64 e.ent) ∧ w'.cell? ⟨M, 3, none⟩ = some (.int .i64 (roomOf e)) ∧ w'.cell? ⟨M, 5, none⟩ = some (.int .u64 t) ∧ w'.cell? ⟨M, 6, none⟩ = some (.int .u64 b) ∧ w'.cell? ⟨M, 7, none⟩ = some (.int .u64 v))
    (first | exact HQ.out.cs7 | exact HN.out.cs7 | exact HMD.out.cs7 | go_keep)
    (first
      | (go_at_call 154; (with_reducible refine (place_any b ok hb0 _).mono ?_); rintro r w3 ⟨rfl, hb⟩; have HN := Lib.hid (HMD.out.step hb); clear hb)
      | (go_at_call 23; (with_reducible refine (put_any _ _ _ HN.out.st h0 h1).mono ?_); rintro r w4 ⟨rfl, hk⟩; have HQ := Lib.hid (HN.out.left hk); clear hk; have c4 := HQ.out.c4; have f4 := HQ.out.f 4; have HE := Lib.hid (HQ.out.p4 (fnv 155 M)))
      | fail)
  go_wp2
  go_returns
  exact ⟨rfl, HE.out⟩
end Go.Proofs.YthoiaffeenhfgaaGreat.Dg

namespace Go.Proofs.YthoiaffeenhfgaaGreat.Dg
open Go.RowKit
set_option linter.unusedVariables false
set_option maxRecDepth 100000
set_option linter.unusedSimpArgs false
variable {w0 : World} {M S D : Nat} {e : En} {nx : Value} {t b v r x : Int} {L : List Int} {c : Int}
set_option maxHeartbeats 1000000 in
theorem seeEntry_any (w : World) (h : Mst w0 w M S D e nx t b v r x L c) (h0 : 0 ≤ c) (h1 : c ≤ 1000000000) (ok : EnOk e) (hb0 : 0 ≤ t) :
    Calls Tryz.prog 212 #[ptr M, ptr S] w fun a w' => a = .returned (.tuple #[]) ∧ Mst w0 w' M S D e (fnv 214 M) t b (ldv L (entOf e t)) r x L (c + 1) := by
  have hmf : ∀ (fn : Fn) (first cap : Array Value) (w : World), (Instr.makeFunc fn first cap).run Tryz.prog w = .ok (.func fn first cap) w := fun _ _ _ _ => rfl
  obtain ⟨q0, q1, q2, q3, q5, q6, q7⟩ := h.cs7
  have HMD := Lib.hid h.drew; clear h
  obtain ⟨y, hy⟩ : ∃ y, y = ldv L (entOf e t) := ⟨_, rfl⟩
  rw [← hy]
  have HY := Lib.hid hy; clear hy
  go_enter Tryz.func212, Tryz.ntmps212
  go_wp2
  go_region_held3 (fun w' => w'.cell? ⟨M, 0, none⟩ = some (.int .i64 e.top) ∧ w'.cell? ⟨M, 1, none⟩ = some (.int .i64 e.bot) ∧ w'.cell? ⟨M, 2, none⟩ = some (.int .i64 e.ent) ∧ w'.cell? ⟨M, 3, none⟩ = some (.int .i64 (roomOf e)) ∧ w'.cell? ⟨M, 5, none⟩ = some (.int .u64 t) ∧ w'.cell? ⟨M, 6, none⟩ = some (.int .u64 b))
    (first | exact HL.out.cs | exact HQ.out.cs | exact HN.out.cs | exact HMD.out.cs | go_keep)
    (first
      | (go_at_call 154; (with_reducible refine (place_any t ok hb0 _).mono ?_); rintro r w3 ⟨rfl, hb⟩; have HN := Lib.hid (HMD.out.step hb); clear hb)
      | (go_at_call 25; (with_reducible refine (load_any _ _ HN.out.st h0 h1).mono ?_); rintro r w4 ⟨rfl, hk⟩; rw [← HY.out]; have HQ := Lib.hid (HN.out.left hk); clear hk; have c7 := HQ.out.c7; have f7 := HQ.out.f 7; have HL := Lib.hid (HQ.out.p7 y))
      | fail)
  obtain ⟨W, hW, hm⟩ : ∃ W, W = _ ∧ Mst w0 W M S D e nx t b y r x L (c + 1) := ⟨_, rfl, HL.out⟩
  rw [← hW]
  have c4 := hm.c4; have f4 := hm.f 4; have HE := Lib.hid (hm.p4 (fnv 214 M))
  clear hm HL HQ HN HMD c7 f7 hW q0 q1 q2 q3 q5 q6 q7
  go_wp2
  go_returns
  exact ⟨rfl, HE.out⟩
set_option maxHeartbeats 1000000 in
theorem takeLast_any (w : World) (h : Mst w0 w M S D e nx t b v r x L c) (h0 : 0 ≤ c) (h1 : c ≤ 1000000000) (ok : EnOk e) (hb0 : 0 ≤ b) :
    Calls Tryz.prog 185 #[ptr M, ptr S] w fun a w' => a = .returned (.tuple #[]) ∧
      Mst w0 w' M S D e (if 0 < aheadOf b t then .nilFunc else fnv 195 M) t b (ldv L (entOf e b)) (if 0 < aheadOf b t then 1 else r) (if 0 < aheadOf b t then ldv L (entOf e b) else x) L (c + 1) := by
  have hmf : ∀ (fn : Fn) (first cap : Array Value) (w : World), (Instr.makeFunc fn first cap).run Tryz.prog w = .ok (.func fn first cap) w := fun _ _ _ _ => rfl
  obtain ⟨y, hy⟩ : ∃ y, y = ldv L (entOf e b) := ⟨_, rfl⟩
  obtain ⟨A, hA⟩ : ∃ A, A = aheadOf b t := ⟨_, rfl⟩
  rw [← hy, ← hA]
  have HY := Lib.hid hy; have HA := Lib.hid hA; clear hy hA
  have HR : ∀ B : Bool, decide (0 < A) = B → Calls Tryz.prog 185 #[ptr M, ptr S] w fun a w' => a = .returned (.tuple #[]) ∧
      Mst w0 w' M S D e (if B = true then .nilFunc else fnv 195 M) t b y (if B = true then 1 else r) (if B = true then y else x) L (c + 1) := by
    intro B hB
    obtain ⟨q0, q1, q2, q3, q5, q6, q7⟩ := h.cs7
    have HMD := Lib.hid h.drew
    clear h
    go_enter Tryz.func185, Tryz.ntmps185
    go_wp2
    go_region_held3 (fun w' => w'.cell? ⟨M, 0, none⟩ = some (.int .i64 e.top) ∧ w'.cell? ⟨M, 1, none⟩ = some (.int .i64 e.bot) ∧ w'.cell? ⟨M, 2, none⟩ = some (.int .i64 e.ent) ∧ w'.cell? ⟨M, 3, none⟩ = some (.int .i64 (roomOf e)) ∧ w'.cell? ⟨M, 5, none⟩ = some (.int .u64 t) ∧ w'.cell? ⟨M, 6, none⟩ = some (.int .u64 b))
      (first | exact HL.out.cs | exact HQ.out.cs | exact HN.out.cs | exact HMD.out.cs | go_keep)
      (first
        | (go_at_call 154; (with_reducible refine (place_any b ok hb0 _).mono ?_); rintro r w3 ⟨rfl, hb⟩; have HN := Lib.hid (HMD.out.step hb); clear hb)
        | (go_at_call 25; (with_reducible refine (load_any _ _ HN.out.st h0 h1).mono ?_); rintro r w4 ⟨rfl, hk⟩; rw [← HY.out]; have HQ := Lib.hid (HN.out.left hk); clear hk; have c7 := HQ.out.c7; have f7 := HQ.out.f 7; have HL := Lib.hid (HQ.out.p7 y))
        | fail)
    obtain ⟨W, hW, hm⟩ : ∃ W, W = _ ∧ Mst w0 W M S D e nx t b y r x L (c + 1) := ⟨_, rfl, HL.out⟩
    rw [← hW]
    obtain ⟨p0, p1, p2, p3, p5, p6⟩ := hm.cs
    clear HL HQ HN HMD c7 f7 hW q0 q1 q2 q3 q5 q6 q7
    have HMD := Lib.hid hm.drew; clear hm
    go_wp2
    go_region_held3 (fun w' => w'.cell? ⟨M, 0, none⟩ = some (.int .i64 e.top) ∧ w'.cell? ⟨M, 1, none⟩ = some (.int .i64 e.bot) ∧ w'.cell? ⟨M, 2, none⟩ = some (.int .i64 e.ent) ∧ w'.cell? ⟨M, 3, none⟩ = some (.int .i64 (roomOf e)) ∧ w'.cell? ⟨M, 5, none⟩ = some (.int .u64 t) ∧ w'.cell? ⟨M, 6, none⟩ = some (.int .u64 b))
      (first | exact HN.out.cs | exact HMD.out.cs | go_keep)
      (first
        | (go_at_call 134; (with_reducible refine (ahead_walk _ _ _).mono ?_); rintro r w5 ⟨rfl, hb⟩; rw [← HA.out]; have HN := Lib.hid (HMD.out.step hb); clear hb; have c4 := HN.out.c4; have f4 := HN.out.f 4; have c7 := HN.out.c7; have HE := Lib.hid (HN.out.p4 (fnv 195 M)))
        | fail)
    clear p0 p1 p2 p3 p5 p6 HMD
    cases B
    · go_wp2
      go_returns
      exact ⟨rfl, HE.out⟩
    · go_wp2_with (first
        | (go_at_call 135; (with_reducible refine (finish_any 1 y _ HN.out).mono ?_); rintro r w6 ⟨rfl, hz⟩)
        | fail)
      go_returns
      exact ⟨rfl, hz⟩
  by_cases hc : 0 < A
  · simpa [hc] using HR true (by simpa using hc)
  · simpa [hc] using HR false (by simpa using hc)
end Go.Proofs.YthoiaffeenhfgaaGreat.Dg
