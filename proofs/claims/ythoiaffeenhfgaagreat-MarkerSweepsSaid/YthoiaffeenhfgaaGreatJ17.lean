/-  -/
import Derived.Test.YthoiaffeenhfgaaGreatJ16
import Derived.Test.YthoiaffeenhfgaaGreatJ1
namespace Go.Proofs.YthoiaffeenhfgaaGreat.Dg
open Go.RowKit
set_option linter.unusedVariables false
set_option maxRecDepth 100000
variable {w0 : World} {M S D : Nat} {e : En} {nx : Value} {t b v r x : Int} {L : List Int} {c : Int}
set_option maxHeartbeats 1000000 in
theorem seeAny_any (w : World) (h : Mst w0 w M S D e nx t b v r x L c) (h0 : 0 ≤ c) (h1 : c ≤ 1000000000) :
    Calls Tryz.prog 171 #[ptr M, ptr S] w fun a w' => a = .returned (.tuple #[]) ∧
      Mst w0 w' M S D e (if 0 < (aheadOf (ldv L e.top) b) then fnv 184 M else fnv 185 M) (ldv L e.top) b v (if 0 < (aheadOf (ldv L e.top) b) then r else r) (if 0 < (aheadOf (ldv L e.top) b) then x else x) L (c + 1) := by
  have hmf : ∀ (fn : Fn) (first cap : Array Value) (w : World), (Instr.makeFunc fn first cap).run Tryz.prog w = .ok (.func fn first cap) w := fun _ _ _ _ => rfl
  have c1 := h.c0
  have H := Lib.hid h; clear h
  obtain ⟨T, hT⟩ : ∃ T, T = ldv L e.top := ⟨_, rfl⟩
  obtain ⟨A, hA⟩ : ∃ A, A = aheadOf T b := ⟨_, rfl⟩
  rw [← hT, ← hA]
  have HT := Lib.hid hT; have HA := Lib.hid hA; clear hT hA
  have HR : ∀ B : Bool, decide (0 < A) = B → Calls Tryz.prog 171 #[ptr M, ptr S] w fun a w' => a = .returned (.tuple #[]) ∧
      Mst w0 w' M S D e (if B = true then fnv 184 M else fnv 185 M) T b v (if B = true then r else r) (if B = true then x else x) L (c + 1) := by
    intro B hB
    go_enter Tryz.func171, Tryz.ntmps171
    go_wp2_with (first
      | (go_at_call 25; (with_reducible refine (load_any _ _ H.out.st h0 h1).mono ?_); rintro r w1 ⟨rfl, hk⟩; rw [← HT.out]; have HK := Lib.hid (H.out.left hk); have c5 := HK.out.c5; have f5 := HK.out.f 5; have HL := Lib.hid (HK.out.p5 T); clear hk)
      | fail)
    obtain ⟨W, hW, hm⟩ : ∃ W, W = _ ∧ Mst w0 W M S D e nx T b v r x L (c + 1) := ⟨_, rfl, HL.out⟩
    rw [← hW]
    obtain ⟨q0, q1, q2, q3, q5, q6⟩ := hm.cs
    have HM := Lib.hid hm; have HMD := Lib.hid hm.drew
    clear hm HL HK c5 f5 hW
    go_region_held3 (fun w' => w'.cell? ⟨M, 0, none⟩ = some (.int .i64 e.top) ∧ w'.cell? ⟨M, 1, none⟩ = some (.int .i64 e.bot) ∧ w'.cell? ⟨M, 2, none⟩ = some (.int .i64 e.ent) ∧ w'.cell? ⟨M, 3, none⟩ = some (.int .i64 (roomOf e)) ∧ w'.cell? ⟨M, 5, none⟩ = some (.int .u64 T) ∧ w'.cell? ⟨M, 6, none⟩ = some (.int .u64 b))
      (first | exact HN.out.cs | exact HMD.out.cs | go_keep)
      (first
        | (go_at_call 134; (with_reducible refine (ahead_walk _ _ _).mono ?_); rintro r w3 ⟨rfl, hb⟩; rw [← HA.out]; have HN := Lib.hid (HMD.out.step hb); clear hb; have c4 := HN.out.c4; have f4 := HN.out.f 4; have HE47 := Lib.hid (HN.out.p4 (fnv 184 M)); have HE48 := Lib.hid (HN.out.p4 (fnv 185 M)))
        | fail)
    clear q0 q1 q2 q3 q5 q6 HM HMD
    cases B
    · go_wp2
      go_returns
      exact ⟨rfl, HE48.out⟩
    · go_wp2
      go_returns
      exact ⟨rfl, HE47.out⟩
  by_cases hc : 0 < A
  · simpa [hc] using HR true (by simpa using hc)
  · simpa [hc] using HR false (by simpa using hc)
set_option maxHeartbeats 1000000 in
theorem seeMore_any (w : World) (h : Mst w0 w M S D e nx t b v r x L c) (h0 : 0 ≤ c) (h1 : c ≤ 1000000000) :
    Calls Tryz.prog 210 #[ptr M, ptr S] w fun a w' => a = .returned (.tuple #[]) ∧
      Mst w0 w' M S D e (if (aheadOf (ldv L e.bot) t) ≤ 0 then .nilFunc else fnv 212 M) t (ldv L e.bot) v (if (aheadOf (ldv L e.bot) t) ≤ 0 then 3 else r) (if (aheadOf (ldv L e.bot) t) ≤ 0 then 0 else x) L (c + 1) := by
  have hmf : ∀ (fn : Fn) (first cap : Array Value) (w : World), (Instr.makeFunc fn first cap).run Tryz.prog w = .ok (.func fn first cap) w := fun _ _ _ _ => rfl
  have c1 := h.c1
  have H := Lib.hid h; clear h
  obtain ⟨T, hT⟩ : ∃ T, T = ldv L e.bot := ⟨_, rfl⟩
  obtain ⟨A, hA⟩ : ∃ A, A = aheadOf T t := ⟨_, rfl⟩
  rw [← hT, ← hA]
  have HT := Lib.hid hT; have HA := Lib.hid hA; clear hT hA
  have HR : ∀ B : Bool, decide (A ≤ 0) = B → Calls Tryz.prog 210 #[ptr M, ptr S] w fun a w' => a = .returned (.tuple #[]) ∧
      Mst w0 w' M S D e (if B = true then .nilFunc else fnv 212 M) t T v (if B = true then 3 else r) (if B = true then 0 else x) L (c + 1) := by
    intro B hB
    go_enter Tryz.func210, Tryz.ntmps210
    go_wp2_with (first
      | (go_at_call 25; (with_reducible refine (load_any _ _ H.out.st h0 h1).mono ?_); rintro r w1 ⟨rfl, hk⟩; rw [← HT.out]; have HK := Lib.hid (H.out.left hk); have c5 := HK.out.c6; have f5 := HK.out.f 6; have HL := Lib.hid (HK.out.p6 T); clear hk)
      | fail)
    obtain ⟨W, hW, hm⟩ : ∃ W, W = _ ∧ Mst w0 W M S D e nx t T v r x L (c + 1) := ⟨_, rfl, HL.out⟩
    rw [← hW]
    obtain ⟨q0, q1, q2, q3, q5, q6⟩ := hm.cs
    have HM := Lib.hid hm; have HMD := Lib.hid hm.drew
    clear hm HL HK c5 f5 hW
    go_region_held3 (fun w' => w'.cell? ⟨M, 0, none⟩ = some (.int .i64 e.top) ∧ w'.cell? ⟨M, 1, none⟩ = some (.int .i64 e.bot) ∧ w'.cell? ⟨M, 2, none⟩ = some (.int .i64 e.ent) ∧ w'.cell? ⟨M, 3, none⟩ = some (.int .i64 (roomOf e)) ∧ w'.cell? ⟨M, 5, none⟩ = some (.int .u64 t) ∧ w'.cell? ⟨M, 6, none⟩ = some (.int .u64 T))
      (first | exact HN.out.cs | exact HMD.out.cs | go_keep)
      (first
        | (go_at_call 134; (with_reducible refine (ahead_walk _ _ _).mono ?_); rintro r w3 ⟨rfl, hb⟩; rw [← HA.out]; have HN := Lib.hid (HMD.out.step hb); clear hb; have c4 := HN.out.c4; have f4 := HN.out.f 4; have HE42 := Lib.hid (HN.out.p4 (fnv 212 M)))
        | fail)
    clear q0 q1 q2 q3 q5 q6 HM HMD
    cases B
    · go_wp2
      go_returns
      exact ⟨rfl, HE42.out⟩
    · go_wp2_with (first
        | (go_at_call 135; (with_reducible refine (finish_any 3 0 _ HN.out).mono ?_); rintro r w4 ⟨rfl, hz⟩)
        | fail)
      go_returns
      exact ⟨rfl, hz⟩
  by_cases hc : A ≤ 0
  · simpa [hc] using HR true (by simpa using hc)
  · simpa [hc] using HR false (by simpa using hc)
end Go.Proofs.YthoiaffeenhfgaaGreat.Dg

namespace Go.Proofs.YthoiaffeenhfgaaGreat.Dg
open Go.RowKit
set_option linter.unusedVariables false
set_option maxRecDepth 100000
variable {w0 : World} {M S D : Nat} {e : En} {nx : Value} {t b v r x : Int} {L : List Int} {c : Int}
set_option maxHeartbeats 1000000 in
theorem showEntry_any (w : World) (h : Mst w0 w M S D e nx t b v r x L c) (h0 : 0 ≤ c) (h1 : c ≤ 1000000000) :
    Calls Tryz.prog 155 #[ptr M, ptr S] w fun a w' => a = .returned (.tuple #[]) ∧ Mst w0 w' M S D e .nilFunc t b v 1 0 (ptv L e.bot (IntKind.u64.wrap (b + 1))) (c + 1) := by
  have hmf : ∀ (fn : Fn) (first cap : Array Value) (w : World), (Instr.makeFunc fn first cap).run Tryz.prog w = .ok (.func fn first cap) w := fun _ _ _ _ => rfl
  obtain ⟨q0, q1, q2, q3, q5, q6⟩ := h.cs
  have q7 := h.c7
  obtain ⟨y, hy⟩ : ∃ y, y = (IntKind.u64.wrap (b + 1)) := ⟨_, rfl⟩
  rw [← hy]
  have hy' := hy.symm; clear hy
  have HD := Lib.hid h.drew; clear h
  go_enter Tryz.func155, Tryz.ntmps155
  go_wp2
  go_still_tail 11, (by kernel_rfl)
  change wpList _ _ _ _ _ w.drew
  go_wp2_with (first
    | (go_at_call 23; (with_reducible refine (put_any _ _ _ HD.out.st h0 h1).mono ?_); rintro r w1 ⟨rfl, hk⟩; have HK := Lib.hid (HD.out.left hk); clear hk; have c4 := HK.out.c4; have f4 := HK.out.f 4; have c7 := HK.out.c7)
    | (go_at_call 135; (with_reducible refine (finish_any 1 0 _ HK.out).mono ?_); rintro r w4 ⟨rfl, hz⟩)
    | fail)
  go_returns
  exact ⟨rfl, hz⟩
set_option maxHeartbeats 1000000 in
theorem hideLast_any (w : World) (h : Mst w0 w M S D e nx t b v r x L c) (h0 : 0 ≤ c) (h1 : c ≤ 1000000000) :
    Calls Tryz.prog 156 #[ptr M, ptr S] w fun a w' => a = .returned (.tuple #[]) ∧ Mst w0 w' M S D e (fnv 171 M) t b v r x (ptv L e.bot b) (c + 1) := by
  have hmf : ∀ (fn : Fn) (first cap : Array Value) (w : World), (Instr.makeFunc fn first cap).run Tryz.prog w = .ok (.func fn first cap) w := fun _ _ _ _ => rfl
  obtain ⟨q0, q1, q2, q3, q5, q6⟩ := h.cs
  have q7 := h.c7
  have HD := Lib.hid h.drew; clear h
  go_enter Tryz.func156, Tryz.ntmps156
  go_wp2
  go_still_tail 10, (by kernel_rfl)
  change wpList _ _ _ _ _ w.drew
  go_wp2_with (first
    | (go_at_call 23; (with_reducible refine (put_any _ _ _ HD.out.st h0 h1).mono ?_); rintro r w1 ⟨rfl, hk⟩; have HK := Lib.hid (HD.out.left hk); clear hk; have c4 := HK.out.c4; have f4 := HK.out.f 4; have c7 := HK.out.c7; have HE := Lib.hid (HK.out.p4 (fnv 171 M)))
    | fail)
  go_returns
  exact ⟨rfl, HE.out⟩
set_option maxHeartbeats 1000000 in
theorem leaveNone_any (w : World) (h : Mst w0 w M S D e nx t b v r x L c) (h0 : 0 ≤ c) (h1 : c ≤ 1000000000) :
    Calls Tryz.prog 184 #[ptr M, ptr S] w fun a w' => a = .returned (.tuple #[]) ∧ Mst w0 w' M S D e .nilFunc t b v 3 0 (ptv L e.bot (IntKind.u64.wrap (b + 1))) (c + 1) := by
  have hmf : ∀ (fn : Fn) (first cap : Array Value) (w : World), (Instr.makeFunc fn first cap).run Tryz.prog w = .ok (.func fn first cap) w := fun _ _ _ _ => rfl
  obtain ⟨q0, q1, q2, q3, q5, q6⟩ := h.cs
  have q7 := h.c7
  obtain ⟨y, hy⟩ : ∃ y, y = (IntKind.u64.wrap (b + 1)) := ⟨_, rfl⟩
  rw [← hy]
  have hy' := hy.symm; clear hy
  have HD := Lib.hid h.drew; clear h
  go_enter Tryz.func184, Tryz.ntmps184
  go_wp2
  go_still_tail 11, (by kernel_rfl)
  change wpList _ _ _ _ _ w.drew
  go_wp2_with (first
    | (go_at_call 23; (with_reducible refine (put_any _ _ _ HD.out.st h0 h1).mono ?_); rintro r w1 ⟨rfl, hk⟩; have HK := Lib.hid (HD.out.left hk); clear hk; have c4 := HK.out.c4; have f4 := HK.out.f 4; have c7 := HK.out.c7)
    | (go_at_call 135; (with_reducible refine (finish_any 3 0 _ HK.out).mono ?_); rintro r w4 ⟨rfl, hz⟩)
    | fail)
  go_returns
  exact ⟨rfl, hz⟩
set_option maxHeartbeats 1000000 in
theorem leaveTaken_any (w : World) (h : Mst w0 w M S D e nx t b v r x L c) (h0 : 0 ≤ c) (h1 : c ≤ 1000000000) :
    Calls Tryz.prog 204 #[ptr M, ptr S] w fun a w' => a = .returned (.tuple #[]) ∧ Mst w0 w' M S D e .nilFunc t b v 1 v (ptv L e.bot (IntKind.u64.wrap (b + 1))) (c + 1) := by
  have hmf : ∀ (fn : Fn) (first cap : Array Value) (w : World), (Instr.makeFunc fn first cap).run Tryz.prog w = .ok (.func fn first cap) w := fun _ _ _ _ => rfl
  obtain ⟨q0, q1, q2, q3, q5, q6⟩ := h.cs
  have q7 := h.c7
  obtain ⟨y, hy⟩ : ∃ y, y = (IntKind.u64.wrap (b + 1)) := ⟨_, rfl⟩
  rw [← hy]
  have hy' := hy.symm; clear hy
  have HD := Lib.hid h.drew; clear h
  go_enter Tryz.func204, Tryz.ntmps204
  go_wp2
  go_still_tail 11, (by kernel_rfl)
  change wpList _ _ _ _ _ w.drew
  go_wp2_with (first
    | (go_at_call 23; (with_reducible refine (put_any _ _ _ HD.out.st h0 h1).mono ?_); rintro r w1 ⟨rfl, hk⟩; have HK := Lib.hid (HD.out.left hk); clear hk; have c4 := HK.out.c4; have f4 := HK.out.f 4; have c7 := HK.out.c7)
    | (go_at_call 135; (with_reducible refine (finish_any 1 v _ HK.out).mono ?_); rintro r w4 ⟨rfl, hz⟩)
    | fail)
  go_returns
  exact ⟨rfl, hz⟩
end Go.Proofs.YthoiaffeenhfgaaGreat.Dg

namespace Go.Proofs.YthoiaffeenhfgaaGreat.Dg
open Go.RowKit
set_option linter.unusedVariables false
set_option maxRecDepth 100000
set_option linter.unusedSimpArgs false
theorem ldv_eq (L : List Int) (a : Int) : ldv L a = ldq L a := by
  unfold ldv ldq inB; simp
theorem ptv_eq (L : List Int) (a v : Int) : ptv L a v = ptq L a v := by
  unfold ptv ptq inB; simp
theorem u64w_eq (a : Int) : IntKind.u64.wrap a = u64w a := IntKind.wrap_u64 a
theorem ahead_eq (a b : Int) : aheadOf a b = ahead a b := rfl
theorem swB_iff (L : List Int) (a o : Int) : swB L a o = true ↔ ((0 ≤ a ∧ a < L.length) ∧ L.getD a.toNat 0 = o) := by
  unfold swB inB; simp
theorem swv_eq (L : List Int) (a o v : Int) : swv L a o v = if (0 ≤ a ∧ a < L.length) ∧ L.getD a.toNat 0 = o then ptq L a v else L := by
  unfold swv
  by_cases h : (0 ≤ a ∧ a < L.length) ∧ L.getD a.toNat 0 = o
  · rw [if_pos ((swB_iff ..).2 h), if_pos h]; unfold ptq; rw [if_pos h.1]
  · rw [if_neg (fun h2 => h ((swB_iff ..).1 h2)), if_neg h]
def nfn (m : Mc) : Nat :=
  if m.kind = 1 then (if m.pc = 1 then 103 else if m.pc = 2 then 117 else if m.pc = 3 then 136 else 155)
  else if m.kind = 2 then (if m.pc = 1 then 137 else if m.pc = 2 then 156 else if m.pc = 3 then 171 else if m.pc = 4 then 185 else if m.pc = 5 then 195 else if m.pc = 6 then (if m.won = true then 204 else 184) else 184)
  else (if m.pc = 1 then 205 else if m.pc = 2 then 210 else if m.pc = 3 then 212 else 214)
def nxt (M : Nat) (m : Mc) : Value := if m.pc = 0 then .nilFunc else fnv (nfn m) M
def rOf (m : Mc) : Int := if m.pc = 0 then m.out else 0
def xOf (m : Mc) : Int := if m.pc = 0 then m.w else 0
def Mi (w0 w : World) (M S D : Nat) (m : Mc) (L : List Int) (c : Int) : Prop :=
  ∃ t b v, Mst w0 w M S D m.e (nxt M m) t b v (rOf m) (xOf m) L c ∧ (m.pc ≠ 0 → t = m.t ∧ b = m.b ∧ v = m.w)
structure Wf (m : Mc) : Prop where
  ok : EnOk m.e
  b : 0 ≤ m.b
  t : 0 ≤ m.t
section
variable {w0 w w' : World} {M S D : Nat} {m : Mc} {L : List Int} {c : Int}
theorem Mi.of {m' : Mc} {t b v r x : Int} {nx : Value} (h : Mst w0 w M S D m'.e nx t b v r x L c) (h1 : nx = nxt M m') (h2 : r = rOf m') (h3 : x = xOf m') (h4 : m'.pc ≠ 0 → t = m'.t ∧ b = m'.b ∧ v = m'.w) : Mi w0 w M S D m' L c := by
  subst h1 h2 h3; exact ⟨t, b, v, h, h4⟩
theorem Mi.at (h : Mi w0 w M S D m L c) (hp : m.pc ≠ 0) : Mst w0 w M S D m.e (fnv (nfn m) M) m.t m.b m.w 0 0 L c := by
  obtain ⟨t, b, v, h, h2⟩ := h
  obtain ⟨rfl, rfl, rfl⟩ := h2 hp
  simpa [nxt, rOf, xOf, hp] using h
theorem next_push (h : Mi w0 w M S D m L c) (hp : m.pc ≠ 0) (hk : m.kind = 1) (wf : Wf m) (h0 : 0 ≤ c) (h1 : c ≤ 1000000000) :
    Calls Tryz.prog (nfn m) #[ptr M, ptr S] w fun a w' => a = .returned (.tuple #[]) ∧ Mi w0 w' M S D (stp L m).2 (stp L m).1 (c + 1) := by
  have h' := h.at hp
  have es : stp L m = pushS L m := by simp [stp, hp, hk]
  rw [es]
  unfold pushS
  by_cases p1 : m.pc = 1
  · rw [if_pos p1, show nfn m = 103 by simp [nfn, hk, p1]]
    refine (seeBottom_any _ h' h0 h1).mono ?_
    rintro a w1 ⟨rfl, k⟩
    rw [ldv_eq] at k
    exact ⟨rfl, Mi.of (m' := { m with pc := 2, b := ldq L m.e.bot }) k (by simp [nxt, nfn, hk]) (by simp [rOf]) (by simp [xOf]) (fun _ => ⟨rfl, rfl, rfl⟩)⟩
  rw [if_neg p1]
  by_cases p2 : m.pc = 2
  · rw [if_pos p2, show nfn m = 117 by simp [nfn, hk, p2]]
    refine (seeRoom_any _ h' h0 h1).mono ?_
    rintro a w1 ⟨rfl, k⟩
    rw [ldv_eq, ahead_eq] at k
    refine ⟨rfl, ?_⟩
    by_cases hc : roomOf m.e ≤ ahead m.b (ldq L m.e.top)
    · rw [if_pos hc]
      simp only [if_pos hc] at k
      exact Mi.of (m' := fin m 2 0) k (by simp [nxt, fin]) (by simp [rOf, fin]) (by simp [xOf, fin]) (fun hn => absurd rfl hn)
    · rw [if_neg hc]
      simp only [if_neg hc] at k
      exact Mi.of (m' := { m with pc := 3, t := ldq L m.e.top }) k (by simp [nxt, nfn, hk]) (by simp [rOf]) (by simp [xOf]) (fun _ => ⟨rfl, rfl, rfl⟩)
  rw [if_neg p2]
  by_cases p3 : m.pc = 3
  · rw [if_pos p3, show nfn m = 136 by simp [nfn, hk, p3]]
    refine (putEntry_any _ h' h0 h1 wf.ok wf.b).mono ?_
    rintro a w1 ⟨rfl, k⟩
    rw [ptv_eq] at k
    exact ⟨rfl, Mi.of (m' := { m with pc := 4 }) k (by simp [nxt, nfn, hk]) (by simp [rOf]) (by simp [xOf]) (fun _ => ⟨rfl, rfl, rfl⟩)⟩
  rw [if_neg p3, show nfn m = 155 by simp [nfn, hk, p1, p2, p3]]
  refine (showEntry_any _ h' h0 h1).mono ?_
  rintro a w1 ⟨rfl, k⟩
  rw [ptv_eq, u64w_eq] at k
  exact ⟨rfl, Mi.of (m' := fin m 1 0) k (by simp [nxt, fin]) (by simp [rOf, fin]) (by simp [xOf, fin]) (fun hn => absurd rfl hn)⟩
theorem next_pop (h : Mi w0 w M S D m L c) (hp : m.pc ≠ 0) (hk : m.kind = 2) (wf : Wf m) (h0 : 0 ≤ c) (h1 : c ≤ 1000000000) :
    Calls Tryz.prog (nfn m) #[ptr M, ptr S] w fun a w' => a = .returned (.tuple #[]) ∧ Mi w0 w' M S D (stp L m).2 (stp L m).1 (c + 1) := by
  have h' := h.at hp
  have es : stp L m = popS L m := by simp [stp, hp, hk]
  rw [es]
  unfold popS
  by_cases p1 : m.pc = 1
  · rw [if_pos p1, show nfn m = 137 by simp [nfn, hk, p1]]
    refine (seeLast_any _ h' h0 h1).mono ?_
    rintro a w1 ⟨rfl, k⟩
    rw [ldv_eq, u64w_eq] at k
    exact ⟨rfl, Mi.of (m' := { m with pc := 2, b := u64w (ldq L m.e.bot - 1) }) k (by simp [nxt, nfn, hk]) (by simp [rOf]) (by simp [xOf]) (fun _ => ⟨rfl, rfl, rfl⟩)⟩
  rw [if_neg p1]
  by_cases p2 : m.pc = 2
  · rw [if_pos p2, show nfn m = 156 by simp [nfn, hk, p2]]
    refine (hideLast_any _ h' h0 h1).mono ?_
    rintro a w1 ⟨rfl, k⟩
    rw [ptv_eq] at k
    exact ⟨rfl, Mi.of (m' := { m with pc := 3 }) k (by simp [nxt, nfn, hk]) (by simp [rOf]) (by simp [xOf]) (fun _ => ⟨rfl, rfl, rfl⟩)⟩
  rw [if_neg p2]
  by_cases p3 : m.pc = 3
  · rw [if_pos p3, show nfn m = 171 by simp [nfn, hk, p3]]
    refine (seeAny_any _ h' h0 h1).mono ?_
    rintro a w1 ⟨rfl, k⟩
    rw [ldv_eq, ahead_eq] at k
    refine ⟨rfl, ?_⟩
    by_cases hc : 0 < ahead (ldq L m.e.top) m.b
    · rw [if_pos hc]
      simp only [if_pos hc] at k
      exact Mi.of (m' := { m with pc := 7, t := ldq L m.e.top }) k (by simp [nxt, nfn, hk]) (by simp [rOf]) (by simp [xOf]) (fun _ => ⟨rfl, rfl, rfl⟩)
    · rw [if_neg hc]
      simp only [if_neg hc] at k
      exact Mi.of (m' := { m with pc := 4, t := ldq L m.e.top }) k (by simp [nxt, nfn, hk]) (by simp [rOf]) (by simp [xOf]) (fun _ => ⟨rfl, rfl, rfl⟩)
  rw [if_neg p3]
  by_cases p4 : m.pc = 4
  · rw [if_pos p4, show nfn m = 185 by simp [nfn, hk, p4]]
    refine (takeLast_any _ h' h0 h1 wf.ok wf.b).mono ?_
    rintro a w1 ⟨rfl, k⟩
    rw [ldv_eq, ahead_eq] at k
    refine ⟨rfl, ?_⟩
    by_cases hc : 0 < ahead m.b m.t
    · rw [if_pos hc]
      simp only [if_pos hc] at k
      exact Mi.of (m' := fin m 1 (ldq L (entOf m.e m.b))) k (by simp [nxt, fin]) (by simp [rOf, fin]) (by simp [xOf, fin]) (fun hn => absurd rfl hn)
    · rw [if_neg hc]
      simp only [if_neg hc] at k
      exact Mi.of (m' := { m with pc := 5, w := ldq L (entOf m.e m.b) }) k (by simp [nxt, nfn, hk]) (by simp [rOf]) (by simp [xOf]) (fun _ => ⟨rfl, rfl, rfl⟩)
  rw [if_neg p4]
  by_cases p5 : m.pc = 5
  · rw [if_pos p5, show nfn m = 195 by simp [nfn, hk, p5]]
    refine (contend_any _ h' h0 h1).mono ?_
    rintro a w1 ⟨rfl, k⟩
    simp only [swB_iff, swv_eq, u64w_eq] at k
    refine ⟨rfl, ?_⟩
    by_cases hc : (0 ≤ m.e.top ∧ m.e.top < L.length) ∧ L.getD m.e.top.toNat 0 = m.t
    · rw [if_pos hc]
      simp only [if_pos hc] at k
      exact Mi.of (m' := { m with pc := 6, won := true }) k (by simp [nxt, nfn, hk]) (by simp [rOf]) (by simp [xOf]) (fun _ => ⟨rfl, rfl, rfl⟩)
    · rw [if_neg hc]
      simp only [if_neg hc] at k
      exact Mi.of (m' := { m with pc := 6, won := false }) k (by simp [nxt, nfn, hk]) (by simp [rOf]) (by simp [xOf]) (fun _ => ⟨rfl, rfl, rfl⟩)
  rw [if_neg p5]
  by_cases p6 : m.pc = 6
  · rw [if_pos p6]
    by_cases hw : m.won = true
    · rw [if_pos hw, show nfn m = 204 by simp [nfn, hk, p6, hw]]
      refine (leaveTaken_any _ h' h0 h1).mono ?_
      rintro a w1 ⟨rfl, k⟩
      rw [ptv_eq, u64w_eq] at k
      exact ⟨rfl, Mi.of (m' := fin m 1 m.w) k (by simp [nxt, fin]) (by simp [rOf, fin]) (by simp [xOf, fin]) (fun hn => absurd rfl hn)⟩
    · rw [if_neg hw, show nfn m = 184 by simp [nfn, hk, p6, hw]]
      refine (leaveNone_any _ h' h0 h1).mono ?_
      rintro a w1 ⟨rfl, k⟩
      rw [ptv_eq, u64w_eq] at k
      exact ⟨rfl, Mi.of (m' := fin m 3 0) k (by simp [nxt, fin]) (by simp [rOf, fin]) (by simp [xOf, fin]) (fun hn => absurd rfl hn)⟩
  rw [if_neg p6, show nfn m = 184 by simp [nfn, hk, p1, p2, p3, p4, p5, p6]]
  refine (leaveNone_any _ h' h0 h1).mono ?_
  rintro a w1 ⟨rfl, k⟩
  rw [ptv_eq, u64w_eq] at k
  exact ⟨rfl, Mi.of (m' := fin m 3 0) k (by simp [nxt, fin]) (by simp [rOf, fin]) (by simp [xOf, fin]) (fun hn => absurd rfl hn)⟩
theorem next_steal (h : Mi w0 w M S D m L c) (hp : m.pc ≠ 0) (hk1 : m.kind ≠ 1) (hk : m.kind ≠ 2) (wf : Wf m) (h0 : 0 ≤ c) (h1 : c ≤ 1000000000) :
    Calls Tryz.prog (nfn m) #[ptr M, ptr S] w fun a w' => a = .returned (.tuple #[]) ∧ Mi w0 w' M S D (stp L m).2 (stp L m).1 (c + 1) := by
  have h' := h.at hp
  have es : stp L m = stealS L m := by simp [stp, hp, hk, hk1]
  rw [es]
  unfold stealS
  by_cases p1 : m.pc = 1
  · rw [if_pos p1, show nfn m = 205 by simp [nfn, hk, hk1, p1]]
    refine (seeFirst_any _ h' h0 h1).mono ?_
    rintro a w1 ⟨rfl, k⟩
    rw [ldv_eq] at k
    exact ⟨rfl, Mi.of (m' := { m with pc := 2, t := ldq L m.e.top }) k (by simp [nxt, nfn, hk, hk1]) (by simp [rOf]) (by simp [xOf]) (fun _ => ⟨rfl, rfl, rfl⟩)⟩
  rw [if_neg p1]
  by_cases p2 : m.pc = 2
  · rw [if_pos p2, show nfn m = 210 by simp [nfn, hk, hk1, p2]]
    refine (seeMore_any _ h' h0 h1).mono ?_
    rintro a w1 ⟨rfl, k⟩
    rw [ldv_eq, ahead_eq] at k
    refine ⟨rfl, ?_⟩
    by_cases hc : ahead (ldq L m.e.bot) m.t ≤ 0
    · rw [if_pos hc]
      simp only [if_pos hc] at k
      exact Mi.of (m' := fin m 3 0) k (by simp [nxt, fin]) (by simp [rOf, fin]) (by simp [xOf, fin]) (fun hn => absurd rfl hn)
    · rw [if_neg hc]
      simp only [if_neg hc] at k
      exact Mi.of (m' := { m with pc := 3, b := ldq L m.e.bot }) k (by simp [nxt, nfn, hk, hk1]) (by simp [rOf]) (by simp [xOf]) (fun _ => ⟨rfl, rfl, rfl⟩)
  rw [if_neg p2]
  by_cases p3 : m.pc = 3
  · rw [if_pos p3, show nfn m = 212 by simp [nfn, hk, hk1, p3]]
    refine (seeEntry_any _ h' h0 h1 wf.ok wf.t).mono ?_
    rintro a w1 ⟨rfl, k⟩
    rw [ldv_eq] at k
    exact ⟨rfl, Mi.of (m' := { m with pc := 4, w := ldq L (entOf m.e m.t) }) k (by simp [nxt, nfn, hk, hk1]) (by simp [rOf]) (by simp [xOf]) (fun _ => ⟨rfl, rfl, rfl⟩)⟩
  rw [if_neg p3, show nfn m = 214 by simp [nfn, hk, hk1, p1, p2, p3]]
  refine (takeFirst_any _ h' h0 h1).mono ?_
  rintro a w1 ⟨rfl, k⟩
  simp only [swB_iff, swv_eq, u64w_eq] at k
  refine ⟨rfl, ?_⟩
  by_cases hc : (0 ≤ m.e.top ∧ m.e.top < L.length) ∧ L.getD m.e.top.toNat 0 = m.t
  · rw [if_pos hc]
    simp only [if_pos hc] at k
    exact Mi.of (m' := fin m 1 m.w) k (by simp [nxt, fin]) (by simp [rOf, fin]) (by simp [xOf, fin]) (fun hn => absurd rfl hn)
  · rw [if_neg hc]
    simp only [if_neg hc] at k
    exact Mi.of (m' := fin m 4 0) k (by simp [nxt, fin]) (by simp [rOf, fin]) (by simp [xOf, fin]) (fun hn => absurd rfl hn)
theorem next_any (h : Mi w0 w M S D m L c) (hp : m.pc ≠ 0) (wf : Wf m) (h0 : 0 ≤ c) (h1 : c ≤ 1000000000) :
    Calls Tryz.prog (nfn m) #[ptr M, ptr S] w fun a w' => a = .returned (.tuple #[]) ∧ Mi w0 w' M S D (stp L m).2 (stp L m).1 (c + 1) := by
  by_cases k1 : m.kind = 1
  · exact next_push h hp k1 wf h0 h1
  by_cases k2 : m.kind = 2
  · exact next_pop h hp k2 wf h0 h1
  exact next_steal h hp k1 k2 wf h0 h1
end
end Go.Proofs.YthoiaffeenhfgaaGreat.Dg
