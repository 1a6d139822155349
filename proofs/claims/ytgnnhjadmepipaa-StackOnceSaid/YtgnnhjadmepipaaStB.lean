/- The steps of a stack's machine that write, and that ask for a place, walked. -/
import Derived.Test.YtgnnhjadmepipaaStA
namespace Go.Proofs.Ytgnnhjadmepipaa
open Go.RowKit
set_option linter.unusedVariables false
variable {w0 : World} {M S D Bx Ab g : Nat} {zs : List Int} {hd : Int} {fs nx : Value} {se th li it tr : Int} {L : List Int} {c : Int}

theorem Mst.cs {w : World} (h : Mst w0 w M S D Bx Ab zs hd fs nx se th li it tr L c) :
    w.cell? ⟨M, 0, none⟩ = some (.int .i64 hd) ∧ w.cell? ⟨M, 1, none⟩ = some (lkV Bx) ∧ w.cell? ⟨M, 4, none⟩ = some (.int .u64 se) ∧ w.cell? ⟨M, 5, none⟩ = some (.int .u32 th) ∧ w.cell? ⟨M, 6, none⟩ = some (.int .u32 li) :=
  ⟨h.c0, h.c1, h.c4, h.c5, h.c6⟩

theorem Mst.cs4 {w : World} (h : Mst w0 w M S D Bx Ab zs hd fs nx se th li it tr L c) :
    w.cell? ⟨M, 0, none⟩ = some (.int .i64 hd) ∧ w.cell? ⟨M, 1, none⟩ = some (lkV Bx) ∧ w.cell? ⟨M, 4, none⟩ = some (.int .u64 se) ∧ w.cell? ⟨M, 5, none⟩ = some (.int .u32 th) :=
  ⟨h.c0, h.c1, h.c4, h.c5⟩

set_option maxHeartbeats 1000000 in
theorem putLink_any (w : World) (h : Mst w0 w M S D Bx Ab zs hd fs nx se th li it tr L c) (h0 : 0 ≤ c) (h1 : c ≤ 1000000000) (t0 : 0 ≤ th) (t1 : th ≤ 4294967295) (l0 : 0 ≤ li) (l1 : li ≤ 4294967295) :
    Calls Try.prog 46 #[ptr M, ptr S] w fun a w' => a = .returned (.tuple #[]) ∧ Mst w0 w' M S D Bx Ab zs hd fs (fnv 55 M) se th li it tr (ptv L (atOf zs th) li) (c + 1) := by
  have hmf : ∀ (fn : Fn) (first cap : Array Value) (w : World), (Instr.makeFunc fn first cap).run Try.prog w = .ok (.func fn first cap) w := fun _ _ _ _ => rfl
  obtain ⟨q0, q1, q4, q5, q6⟩ := h.cs
  have HMD := Lib.hid h.drew; clear h
  have ew : IntKind.u64.wrap li = li := by rw [IntKind.wrap_u64]; omega
  go_enter Try.func46, Try.ntmps46
  go_wp2
  go_region_held3 (fun w' => w'.cell? ⟨M, 0, none⟩ = some (.int .i64 hd) ∧ w'.cell? ⟨M, 1, none⟩ = some (lkV Bx) ∧ w'.cell? ⟨M, 4, none⟩ = some (.int .u64 se) ∧ w'.cell? ⟨M, 5, none⟩ = some (.int .u32 th) ∧ w'.cell? ⟨M, 6, none⟩ = some (.int .u32 li))
    (first | exact HQ.out.cs | exact HN.out.cs | exact HMD.out.cs | go_keep)
    (first
      | (go_at_call 42; (with_reducible refine (place_any _ _ HMD.out.lk t0 t1).mono ?_); rintro r w3 ⟨rfl, hb⟩; have HN := Lib.hid (HMD.out.step hb); clear hb)
      | (go_at_call 23; (with_reducible refine (put_any _ _ _ HN.out.st h0 h1).mono ?_); rintro r w4 ⟨rfl, hk⟩; have HQ := Lib.hid (HN.out.left hk); clear hk; have c3 := HQ.out.c3; have f3 := HQ.out.f 3; have HL := Lib.hid (HQ.out.p3 (fnv 55 M)))
      | fail)
  go_wp2
  go_returns
  exact ⟨rfl, HL.out⟩

set_option maxHeartbeats 1000000 in
theorem seeLink_any (w : World) (h : Mst w0 w M S D Bx Ab zs hd fs nx se th li it tr L c) (h0 : 0 ≤ c) (h1 : c ≤ 1000000000) (t0 : 0 ≤ th) (t1 : th ≤ 4294967295) (ww : WW L) :
    Calls Try.prog 45 #[ptr M, ptr S] w fun a w' => a = .returned (.tuple #[]) ∧ Mst w0 w' M S D Bx Ab zs hd fs (fnv 54 M) se th (lowOf (ldv L (atOf zs th))) it tr L (c + 1) := by
  have hmf : ∀ (fn : Fn) (first cap : Array Value) (w : World), (Instr.makeFunc fn first cap).run Try.prog w = .ok (.func fn first cap) w := fun _ _ _ _ => rfl
  obtain ⟨q0, q1, q4, q5, q6⟩ := h.cs
  have HMD := Lib.hid h.drew; clear h
  obtain ⟨y, hy⟩ : ∃ y, y = ldv L (atOf zs th) := ⟨_, rfl⟩
  rw [← hy]
  have HY := Lib.hid hy
  have y0 : 0 ≤ y := by rw [hy]; exact (ww.ld _).1
  have y1 : y ≤ 18446744073709551615 := by rw [hy]; exact (ww.ld _).2
  clear hy ww
  obtain ⟨v, hv⟩ : ∃ v, v = lowOf y := ⟨_, rfl⟩
  rw [← hv]
  have HV := Lib.hid hv; clear hv
  go_enter Try.func45, Try.ntmps45
  go_wp2
  go_region_held3 (fun w' => w'.cell? ⟨M, 0, none⟩ = some (.int .i64 hd) ∧ w'.cell? ⟨M, 1, none⟩ = some (lkV Bx) ∧ w'.cell? ⟨M, 4, none⟩ = some (.int .u64 se) ∧ w'.cell? ⟨M, 5, none⟩ = some (.int .u32 th))
    (first | exact HL.out.cs4 | exact HR.out.cs4 | exact HQ.out.cs4 | exact HN.out.cs4 | exact HMD.out.cs4 | go_keep)
    (first
      | (go_at_call 42; (with_reducible refine (place_any _ _ HMD.out.lk t0 t1).mono ?_); rintro r w3 ⟨rfl, hb⟩; have HN := Lib.hid (HMD.out.step hb); clear hb)
      | (go_at_call 30; (with_reducible refine (load_any _ _ HN.out.st h0 h1).mono ?_); rintro r w4 ⟨rfl, hk⟩; rw [← HY.out]; have HQ := Lib.hid (HN.out.left hk); clear hk)
      | (go_at_call 52; (with_reducible refine (low_any _ y0 y1 _).mono ?_); rintro r w5 ⟨rfl, hb⟩; rw [← HV.out]; have HR := Lib.hid (HQ.out.step hb); clear hb; have c6 := HR.out.c6; have f6 := HR.out.f 6; have HL := Lib.hid (HR.out.p6 v))
      | fail)
  have c3 := HL.out.c3; have f3 := HL.out.f 3; have HF := Lib.hid (HL.out.p3 (fnv 54 M))
  go_wp2
  go_returns
  exact ⟨rfl, HF.out⟩

/-- What a turn leaves. -/
def Turned (w0 : World) (M S D Bx Ab : Nat) (zs : List Int) (hd : Int) (fs : Value) (se th li it tr : Int) (L : List Int) (c x : Int) (w' : World) : Prop :=
  Mst w0 w' M S D Bx Ab zs hd fs (if swB L hd se = true then .nilFunc else fs) se th li (if swB L hd se = true then th else it) tr (swv L hd se (turnOf se x)) (c + 1)

set_option maxHeartbeats 2000000 in
theorem turn2_any (x : Int) (w : World) (h : Mst w0 w M S D Bx Ab zs hd (fnv g M) nx se th li it tr L c) (h0 : 0 ≤ c) (h1 : c ≤ 1000000000) (s0 : 0 ≤ se) (s1 : se ≤ 18446744073709551615) (x0 : 0 ≤ x) (x1 : x ≤ 4294967295) :
    Calls Try.prog 57 #[ptr M, ptr S, .int .u32 x] w fun a w' => a = .returned (.tuple #[]) ∧ Turned w0 M S D Bx Ab zs hd (fnv g M) se th li it tr L c x w' := by
  obtain ⟨q0, q1, q4, q5⟩ := h.cs4
  have HMD := Lib.hid h.drew; clear h
  unfold Turned
  obtain ⟨b, hb⟩ : ∃ b, b = swB L hd se := ⟨_, rfl⟩
  obtain ⟨L', hL'⟩ : ∃ L', L' = swv L hd se (turnOf se x) := ⟨_, rfl⟩
  rw [← hb, ← hL']
  have HB := Lib.hid hb; have HW := Lib.hid hL'
  clear hb hL'
  cases b
  · simp only [Bool.false_eq_true, if_false]
    go_enter Try.func57, Try.ntmps57
    go_wp2
    go_region_held3 (fun w' => w'.cell? ⟨M, 0, none⟩ = some (.int .i64 hd) ∧ w'.cell? ⟨M, 1, none⟩ = some (lkV Bx) ∧ w'.cell? ⟨M, 4, none⟩ = some (.int .u64 se) ∧ w'.cell? ⟨M, 5, none⟩ = some (.int .u32 th))
      (first | exact HQ.out.cs4 | exact HN.out.cs4 | exact HMD.out.cs4 | go_keep)
      (first
        | (go_at_call 60; (with_reducible refine (turnw_any _ _ s0 s1 x0 x1 _).mono ?_); rintro r w3 ⟨rfl, hb⟩; have HN := Lib.hid (HMD.out.step hb); clear hb)
        | (go_at_call 59; (with_reducible refine (swap_any _ _ _ _ HN.out.st h0 h1).mono ?_); rintro r w4 ⟨rfl, hk⟩; rw [← HB.out]; rw [← HW.out] at hk; have HQ := Lib.hid (HN.out.left hk); clear hk)
        | fail)
    have c2 := HQ.out.c2; have c3 := HQ.out.c3; have f3 := HQ.out.f 3; have HF := Lib.hid (HQ.out.p3 (fnv g M))
    go_wp2
    go_returns
    exact ⟨rfl, HF.out⟩
  · simp only [if_true]
    go_enter Try.func57, Try.ntmps57
    go_wp2
    go_region_held3 (fun w' => w'.cell? ⟨M, 0, none⟩ = some (.int .i64 hd) ∧ w'.cell? ⟨M, 1, none⟩ = some (lkV Bx) ∧ w'.cell? ⟨M, 4, none⟩ = some (.int .u64 se) ∧ w'.cell? ⟨M, 5, none⟩ = some (.int .u32 th))
      (first | exact HQ.out.cs4 | exact HN.out.cs4 | exact HMD.out.cs4 | go_keep)
      (first
        | (go_at_call 60; (with_reducible refine (turnw_any _ _ s0 s1 x0 x1 _).mono ?_); rintro r w3 ⟨rfl, hb⟩; have HN := Lib.hid (HMD.out.step hb); clear hb)
        | (go_at_call 59; (with_reducible refine (swap_any _ _ _ _ HN.out.st h0 h1).mono ?_); rintro r w4 ⟨rfl, hk⟩; rw [← HB.out]; rw [← HW.out] at hk; have HQ := Lib.hid (HN.out.left hk); clear hk)
        | fail)
    have c5 := HQ.out.c5
    go_wp2_with (first
      | (go_at_call 44; (with_reducible refine (finish_any _ _ HQ.out).mono ?_); rintro r w5 ⟨rfl, hk⟩; have HF := Lib.hid hk; clear hk)
      | fail)
    go_returns
    exact ⟨rfl, HF.out⟩

set_option maxHeartbeats 1000000 in
theorem showThing_any (w : World) (h : Mst w0 w M S D Bx Ab zs hd (fnv g M) nx se th li it tr L c) (h0 : 0 ≤ c) (h1 : c ≤ 1000000000) (s0 : 0 ≤ se) (s1 : se ≤ 18446744073709551615) (x0 : 0 ≤ th) (x1 : th ≤ 4294967295) :
    Calls Try.prog 55 #[ptr M, ptr S] w fun a w' => a = .returned (.tuple #[]) ∧ Turned w0 M S D Bx Ab zs hd (fnv g M) se th li it tr L c th w' := by
  have c5 := h.c5
  have H := Lib.hid h; clear h
  go_enter Try.func55, Try.ntmps55
  go_wp2_with (first
    | (go_at_call 57; (with_reducible refine (turn2_any _ _ H.out h0 h1 s0 s1 x0 x1).mono ?_); rintro r w5 ⟨rfl, hk⟩; have HF := Lib.hid hk; clear hk)
    | fail)
  go_returns
  exact ⟨rfl, HF.out⟩
set_option maxHeartbeats 1000000 in
theorem takeThing_any (w : World) (h : Mst w0 w M S D Bx Ab zs hd (fnv g M) nx se th li it tr L c) (h0 : 0 ≤ c) (h1 : c ≤ 1000000000) (s0 : 0 ≤ se) (s1 : se ≤ 18446744073709551615) (x0 : 0 ≤ li) (x1 : li ≤ 4294967295) :
    Calls Try.prog 54 #[ptr M, ptr S] w fun a w' => a = .returned (.tuple #[]) ∧ Turned w0 M S D Bx Ab zs hd (fnv g M) se th li it tr L c li w' := by
  have c6 := h.c6
  have H := Lib.hid h; clear h
  go_enter Try.func54, Try.ntmps54
  go_wp2_with (first
    | (go_at_call 57; (with_reducible refine (turn2_any _ _ H.out h0 h1 s0 s1 x0 x1).mono ?_); rintro r w5 ⟨rfl, hk⟩; have HF := Lib.hid hk; clear hk)
    | fail)
  go_returns
  exact ⟨rfl, HF.out⟩
end Go.Proofs.Ytgnnhjadmepipaa
