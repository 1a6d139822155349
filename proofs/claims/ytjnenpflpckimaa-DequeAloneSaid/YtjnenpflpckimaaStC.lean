/- The steps of a deque's machine, walked: those that compare the ends. -/
import Derived.Test.YtjnenpflpckimaaStB
namespace Go.Proofs.Ytjnenpflpckimaa
open Go.RowKit
set_option linter.unusedVariables false
variable {w0 : World} {M S D : Nat} {e : En} {nx : Value} {t b v r x : Int} {L : List Int} {c : Int}

set_option maxHeartbeats 1000000 in
/-- Is there a last one? -/
theorem seeAny_any (w : World) (h : Mst w0 w M S D e nx t b v r x L c) (h0 : 0 ≤ c) (h1 : c ≤ 1000000000) :
    Calls Try.prog 41 #[ptr M, ptr S] w fun a w' => a = .returned (.tuple #[]) ∧
      Mst w0 w' M S D e (if 0 < (aheadOf (ldv L e.top) b) then fnv 47 M else fnv 48 M) (ldv L e.top) b v (if 0 < (aheadOf (ldv L e.top) b) then r else r) (if 0 < (aheadOf (ldv L e.top) b) then x else x) L (c + 1) := by
  have hmf : ∀ (fn : Fn) (first cap : Array Value) (w : World), (Instr.makeFunc fn first cap).run Try.prog w = .ok (.func fn first cap) w := fun _ _ _ _ => rfl
  have c1 := h.c0
  have H := Lib.hid h; clear h
  obtain ⟨T, hT⟩ : ∃ T, T = ldv L e.top := ⟨_, rfl⟩
  obtain ⟨A, hA⟩ : ∃ A, A = aheadOf T b := ⟨_, rfl⟩
  rw [← hT, ← hA]
  have HT := Lib.hid hT; have HA := Lib.hid hA; clear hT hA
  have HR : ∀ B : Bool, decide (0 < A) = B → Calls Try.prog 41 #[ptr M, ptr S] w fun a w' => a = .returned (.tuple #[]) ∧
      Mst w0 w' M S D e (if B = true then fnv 47 M else fnv 48 M) T b v (if B = true then r else r) (if B = true then x else x) L (c + 1) := by
    intro B hB
    go_enter Try.func41, Try.ntmps41
    go_wp2_with (first
      | (go_at_call 20; (with_reducible refine (load_any _ _ H.out.st h0 h1).mono ?_); rintro r w1 ⟨rfl, hk⟩; rw [← HT.out]; have HK := Lib.hid (H.out.left hk); have c5 := HK.out.c5; have f5 := HK.out.f 5; have HL := Lib.hid (HK.out.p5 T); clear hk)
      | fail)
    obtain ⟨W, hW, hm⟩ : ∃ W, W = _ ∧ Mst w0 W M S D e nx T b v r x L (c + 1) := ⟨_, rfl, HL.out⟩
    rw [← hW]
    obtain ⟨q0, q1, q2, q3, q5, q6⟩ := hm.cs
    have HM := Lib.hid hm; have HMD := Lib.hid hm.drew
    clear hm HL HK c5 f5 hW
    go_region_held3 (fun w' => w'.cell? ⟨M, 0, none⟩ = some (.int .i64 e.top) ∧ w'.cell? ⟨M, 1, none⟩ = some (.int .i64 e.bot) ∧ w'.cell? ⟨M, 2, none⟩ = some (.int .i64 e.ent) ∧ w'.cell? ⟨M, 3, none⟩ = some (.int .i64 (roomOf e)) ∧ w'.cell? ⟨M, 5, none⟩ = some (.int .u64 T) ∧ w'.cell? ⟨M, 6, none⟩ = some (.int .u64 b))
      (first | exact HN.out.cs | exact HMD.out.cs | go_keep)
      (first
        | (go_at_call 38; (with_reducible refine (ahead_walk _ _ _).mono ?_); rintro r w3 ⟨rfl, hb⟩; rw [← HA.out]; have HN := Lib.hid (HMD.out.step hb); clear hb; have c4 := HN.out.c4; have f4 := HN.out.f 4; have HE47 := Lib.hid (HN.out.p4 (fnv 47 M)); have HE48 := Lib.hid (HN.out.p4 (fnv 48 M)))
        | fail)
    clear q0 q1 q2 q3 q5 q6 HM HMD
    cases B
    · go_wp2
      go_returns
      exact ⟨rfl, HE48.out⟩
    · go_wp2
      go_returns
      exact ⟨rfl, HE47.out⟩
  by_cases hc : 0 < A
  · simpa [hc] using HR true (by simpa using hc)
  · simpa [hc] using HR false (by simpa using hc)
set_option maxHeartbeats 1000000 in
/-- Is there a first one? -/
theorem seeMore_any (w : World) (h : Mst w0 w M S D e nx t b v r x L c) (h0 : 0 ≤ c) (h1 : c ≤ 1000000000) :
    Calls Try.prog 37 #[ptr M, ptr S] w fun a w' => a = .returned (.tuple #[]) ∧
      Mst w0 w' M S D e (if (aheadOf (ldv L e.bot) t) ≤ 0 then .nilFunc else fnv 42 M) t (ldv L e.bot) v (if (aheadOf (ldv L e.bot) t) ≤ 0 then 3 else r) (if (aheadOf (ldv L e.bot) t) ≤ 0 then 0 else x) L (c + 1) := by
  have hmf : ∀ (fn : Fn) (first cap : Array Value) (w : World), (Instr.makeFunc fn first cap).run Try.prog w = .ok (.func fn first cap) w := fun _ _ _ _ => rfl
  have c1 := h.c1
  have H := Lib.hid h; clear h
  obtain ⟨T, hT⟩ : ∃ T, T = ldv L e.bot := ⟨_, rfl⟩
  obtain ⟨A, hA⟩ : ∃ A, A = aheadOf T t := ⟨_, rfl⟩
  rw [← hT, ← hA]
  have HT := Lib.hid hT; have HA := Lib.hid hA; clear hT hA
  have HR : ∀ B : Bool, decide (A ≤ 0) = B → Calls Try.prog 37 #[ptr M, ptr S] w fun a w' => a = .returned (.tuple #[]) ∧
      Mst w0 w' M S D e (if B = true then .nilFunc else fnv 42 M) t T v (if B = true then 3 else r) (if B = true then 0 else x) L (c + 1) := by
    intro B hB
    go_enter Try.func37, Try.ntmps37
    go_wp2_with (first
      | (go_at_call 20; (with_reducible refine (load_any _ _ H.out.st h0 h1).mono ?_); rintro r w1 ⟨rfl, hk⟩; rw [← HT.out]; have HK := Lib.hid (H.out.left hk); have c5 := HK.out.c6; have f5 := HK.out.f 6; have HL := Lib.hid (HK.out.p6 T); clear hk)
      | fail)
    obtain ⟨W, hW, hm⟩ : ∃ W, W = _ ∧ Mst w0 W M S D e nx t T v r x L (c + 1) := ⟨_, rfl, HL.out⟩
    rw [← hW]
    obtain ⟨q0, q1, q2, q3, q5, q6⟩ := hm.cs
    have HM := Lib.hid hm; have HMD := Lib.hid hm.drew
    clear hm HL HK c5 f5 hW
    go_region_held3 (fun w' => w'.cell? ⟨M, 0, none⟩ = some (.int .i64 e.top) ∧ w'.cell? ⟨M, 1, none⟩ = some (.int .i64 e.bot) ∧ w'.cell? ⟨M, 2, none⟩ = some (.int .i64 e.ent) ∧ w'.cell? ⟨M, 3, none⟩ = some (.int .i64 (roomOf e)) ∧ w'.cell? ⟨M, 5, none⟩ = some (.int .u64 t) ∧ w'.cell? ⟨M, 6, none⟩ = some (.int .u64 T))
      (first | exact HN.out.cs | exact HMD.out.cs | go_keep)
      (first
        | (go_at_call 38; (with_reducible refine (ahead_walk _ _ _).mono ?_); rintro r w3 ⟨rfl, hb⟩; rw [← HA.out]; have HN := Lib.hid (HMD.out.step hb); clear hb; have c4 := HN.out.c4; have f4 := HN.out.f 4; have HE42 := Lib.hid (HN.out.p4 (fnv 42 M)))
        | fail)
    clear q0 q1 q2 q3 q5 q6 HM HMD
    cases B
    · go_wp2
      go_returns
      exact ⟨rfl, HE42.out⟩
    · go_wp2_with (first
        | (go_at_call 39; (with_reducible refine (finish_any 3 0 _ HN.out).mono ?_); rintro r w4 ⟨rfl, hz⟩)
        | fail)
      go_returns
      exact ⟨rfl, hz⟩
  by_cases hc : A ≤ 0
  · simpa [hc] using HR true (by simpa using hc)
  · simpa [hc] using HR false (by simpa using hc)
end Go.Proofs.Ytjnenpflpckimaa
