/- The steps of a deque's machine, walked: those that see an entry. -/
import Derived.Test.YtjnenpflpckimaaStF
namespace Go.Proofs.Ytjnenpflpckimaa
open Go.RowKit
set_option linter.unusedVariables false
set_option linter.unusedSimpArgs false
variable {w0 : World} {M S D : Nat} {e : En} {nx : Value} {t b v r x : Int} {L : List Int} {c : Int}

theorem Mst.see7 {w : World} (h : Mst w0 w M S D e nx t b v r x L c) (y : Int) (f : Value) : Mst w0 ((w.setCell ⟨M, 7, none⟩ (.int .u64 y)).setCell ⟨M, 4, none⟩ f) M S D e f t b y r x L c := (h.p7 y).p4 f
set_option maxHeartbeats 1000000 in
/-- The first one is seen. -/
theorem seeEntry_any (w : World) (h : Mst w0 w M S D e nx t b v r x L c) (h0 : 0 ≤ c) (h1 : c ≤ 1000000000) (ok : EnOk e) (hb0 : 0 ≤ t) :
    Calls Try.prog 42 #[ptr M, ptr S] w fun a w' => a = .returned (.tuple #[]) ∧ Mst w0 w' M S D e (fnv 49 M) t b (ldv L (entOf e t)) r x L (c + 1) := by
  have hmf : ∀ (fn : Fn) (first cap : Array Value) (w : World), (Instr.makeFunc fn first cap).run Try.prog w = .ok (.func fn first cap) w := fun _ _ _ _ => rfl
  obtain ⟨q0, q1, q2, q3, q5, q6, q7⟩ := h.cs7
  have HMD := Lib.hid h.drew; clear h
  obtain ⟨y, hy⟩ : ∃ y, y = ldv L (entOf e t) := ⟨_, rfl⟩
  rw [← hy]
  have HY := Lib.hid hy; clear hy
  go_enter Try.func42, Try.ntmps42
  go_wp2
  go_region_held3 (fun w' => w'.cell? ⟨M, 0, none⟩ = some (.int .i64 e.top) ∧ w'.cell? ⟨M, 1, none⟩ = some (.int .i64 e.bot) ∧ w'.cell? ⟨M, 2, none⟩ = some (.int .i64 e.ent) ∧ w'.cell? ⟨M, 3, none⟩ = some (.int .i64 (roomOf e)) ∧ w'.cell? ⟨M, 5, none⟩ = some (.int .u64 t) ∧ w'.cell? ⟨M, 6, none⟩ = some (.int .u64 b))
    (first | exact HL.out.cs | exact HQ.out.cs | exact HN.out.cs | exact HMD.out.cs | go_keep)
    (first
      | (go_at_call 45; (with_reducible refine (place_any t ok hb0 _).mono ?_); rintro r w3 ⟨rfl, hb⟩; have HN := Lib.hid (HMD.out.step hb); clear hb)
      | (go_at_call 20; (with_reducible refine (load_any _ _ HN.out.st h0 h1).mono ?_); rintro r w4 ⟨rfl, hk⟩; rw [← HY.out]; have HQ := Lib.hid (HN.out.left hk); clear hk; have c7 := HQ.out.c7; have f7 := HQ.out.f 7; have HL := Lib.hid (HQ.out.p7 y))
      | fail)
  obtain ⟨W, hW, hm⟩ : ∃ W, W = _ ∧ Mst w0 W M S D e nx t b y r x L (c + 1) := ⟨_, rfl, HL.out⟩
  rw [← hW]
  have c4 := hm.c4; have f4 := hm.f 4; have HE := Lib.hid (hm.p4 (fnv 49 M))
  clear hm HL HQ HN HMD c7 f7 hW q0 q1 q2 q3 q5 q6 q7
  go_wp2
  go_returns
  exact ⟨rfl, HE.out⟩

set_option maxHeartbeats 1000000 in
/-- The last one is seen. -/
theorem takeLast_any (w : World) (h : Mst w0 w M S D e nx t b v r x L c) (h0 : 0 ≤ c) (h1 : c ≤ 1000000000) (ok : EnOk e) (hb0 : 0 ≤ b) :
    Calls Try.prog 48 #[ptr M, ptr S] w fun a w' => a = .returned (.tuple #[]) ∧
      Mst w0 w' M S D e (if 0 < aheadOf b t then .nilFunc else fnv 50 M) t b (ldv L (entOf e b)) (if 0 < aheadOf b t then 1 else r) (if 0 < aheadOf b t then ldv L (entOf e b) else x) L (c + 1) := by
  have hmf : ∀ (fn : Fn) (first cap : Array Value) (w : World), (Instr.makeFunc fn first cap).run Try.prog w = .ok (.func fn first cap) w := fun _ _ _ _ => rfl
  obtain ⟨y, hy⟩ : ∃ y, y = ldv L (entOf e b) := ⟨_, rfl⟩
  obtain ⟨A, hA⟩ : ∃ A, A = aheadOf b t := ⟨_, rfl⟩
  rw [← hy, ← hA]
  have HY := Lib.hid hy; have HA := Lib.hid hA; clear hy hA
  have HR : ∀ B : Bool, decide (0 < A) = B → Calls Try.prog 48 #[ptr M, ptr S] w fun a w' => a = .returned (.tuple #[]) ∧
      Mst w0 w' M S D e (if B = true then .nilFunc else fnv 50 M) t b y (if B = true then 1 else r) (if B = true then y else x) L (c + 1) := by
    intro B hB
    obtain ⟨q0, q1, q2, q3, q5, q6, q7⟩ := h.cs7
    have HMD := Lib.hid h.drew
    clear h
    go_enter Try.func48, Try.ntmps48
    go_wp2
    go_region_held3 (fun w' => w'.cell? ⟨M, 0, none⟩ = some (.int .i64 e.top) ∧ w'.cell? ⟨M, 1, none⟩ = some (.int .i64 e.bot) ∧ w'.cell? ⟨M, 2, none⟩ = some (.int .i64 e.ent) ∧ w'.cell? ⟨M, 3, none⟩ = some (.int .i64 (roomOf e)) ∧ w'.cell? ⟨M, 5, none⟩ = some (.int .u64 t) ∧ w'.cell? ⟨M, 6, none⟩ = some (.int .u64 b))
      (first | exact HL.out.cs | exact HQ.out.cs | exact HN.out.cs | exact HMD.out.cs | go_keep)
      (first
        | (go_at_call 45; (with_reducible refine (place_any b ok hb0 _).mono ?_); rintro r w3 ⟨rfl, hb⟩; have HN := Lib.hid (HMD.out.step hb); clear hb)
        | (go_at_call 20; (with_reducible refine (load_any _ _ HN.out.st h0 h1).mono ?_); rintro r w4 ⟨rfl, hk⟩; rw [← HY.out]; have HQ := Lib.hid (HN.out.left hk); clear hk; have c7 := HQ.out.c7; have f7 := HQ.out.f 7; have HL := Lib.hid (HQ.out.p7 y))
        | fail)
    obtain ⟨W, hW, hm⟩ : ∃ W, W = _ ∧ Mst w0 W M S D e nx t b y r x L (c + 1) := ⟨_, rfl, HL.out⟩
    rw [← hW]
    obtain ⟨p0, p1, p2, p3, p5, p6⟩ := hm.cs
    clear HL HQ HN HMD c7 f7 hW q0 q1 q2 q3 q5 q6 q7
    have HMD := Lib.hid hm.drew; clear hm
    go_wp2
    go_region_held3 (fun w' => w'.cell? ⟨M, 0, none⟩ = some (.int .i64 e.top) ∧ w'.cell? ⟨M, 1, none⟩ = some (.int .i64 e.bot) ∧ w'.cell? ⟨M, 2, none⟩ = some (.int .i64 e.ent) ∧ w'.cell? ⟨M, 3, none⟩ = some (.int .i64 (roomOf e)) ∧ w'.cell? ⟨M, 5, none⟩ = some (.int .u64 t) ∧ w'.cell? ⟨M, 6, none⟩ = some (.int .u64 b))
      (first | exact HN.out.cs | exact HMD.out.cs | go_keep)
      (first
        | (go_at_call 38; (with_reducible refine (ahead_walk _ _ _).mono ?_); rintro r w5 ⟨rfl, hb⟩; rw [← HA.out]; have HN := Lib.hid (HMD.out.step hb); clear hb; have c4 := HN.out.c4; have f4 := HN.out.f 4; have c7 := HN.out.c7; have HE := Lib.hid (HN.out.p4 (fnv 50 M)))
        | fail)
    clear p0 p1 p2 p3 p5 p6 HMD
    cases B
    · go_wp2
      go_returns
      exact ⟨rfl, HE.out⟩
    · go_wp2_with (first
        | (go_at_call 39; (with_reducible refine (finish_any 1 y _ HN.out).mono ?_); rintro r w6 ⟨rfl, hz⟩)
        | fail)
      go_returns
      exact ⟨rfl, hz⟩
  by_cases hc : 0 < A
  · simpa [hc] using HR true (by simpa using hc)
  · simpa [hc] using HR false (by simpa using hc)
end Go.Proofs.Ytjnenpflpckimaa
