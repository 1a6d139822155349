/- How many packets there are, walked. -/
import Derived.Test.YtbjhciccpkbmoaaLayMap
namespace Go.Proofs.Ytbjhciccpkbmoaa.Lay
open Go.RowKit
set_option linter.unusedVariables false

/-- A configuration that lies in memory. -/
structure KC (w : World) (B : Nat) (c : Cfg) (w' : World) : Prop where
  lt : B < w'.heap.size
  c0 : w'.cell? ⟨B, 0, none⟩ = some (.int .i64 c.a)
  c1 : w'.cell? ⟨B, 1, none⟩ = some (.int .i64 c.b)
  c2 : w'.cell? ⟨B, 2, none⟩ = some (.int .i64 c.c)
  c3 : w'.cell? ⟨B, 3, none⟩ = some (.int .i64 c.d)
  c4 : w'.cell? ⟨B, 4, none⟩ = some (.int .i64 c.e)
  c5 : w'.cell? ⟨B, 5, none⟩ = some (.int .i64 c.mr)
  c6 : w'.cell? ⟨B, 6, none⟩ = some (.int .i64 c.mu)
  c7 : w'.cell? ⟨B, 7, none⟩ = some (.int .i64 c.dq)
  c8 : w'.cell? ⟨B, 8, none⟩ = some (.int .i64 c.ch)
  c9 : w'.cell? ⟨B, 9, none⟩ = some (.int .i64 c.bf)
  c10 : w'.cell? ⟨B, 10, none⟩ = some (.int .i64 c.rt)
  c11 : w'.cell? ⟨B, 11, none⟩ = some (.int .i64 c.sw)
  bel : Below w.heap.size w w'
theorem KC.start (c : Cfg) (t : TypeId) (w w1 : World) (h : Below w.heap.size w w1) : KC w w1.heap.size c (w1.alloc (cfgO c t)) := by
  refine ⟨by simp, ?_, ?_, ?_, ?_, ?_, ?_, ?_, ?_, ?_, ?_, ?_, ?_, below_alloc0 h _⟩
  all_goals (rw [World.cell?_alloc_at _ _ _ _ rfl]; rfl)
theorem KC.step {w : World} {B : Nat} {c : Cfg} {w' w2 : World} (h : KC w B c w') (hb : Below w'.heap.size w' w2) : KC w B c w2 :=
  ⟨Nat.lt_of_lt_of_le h.lt hb.size, (hb.cell (p := ⟨B, 0, none⟩) h.lt).trans h.c0, (hb.cell (p := ⟨B, 1, none⟩) h.lt).trans h.c1, (hb.cell (p := ⟨B, 2, none⟩) h.lt).trans h.c2, (hb.cell (p := ⟨B, 3, none⟩) h.lt).trans h.c3, (hb.cell (p := ⟨B, 4, none⟩) h.lt).trans h.c4, (hb.cell (p := ⟨B, 5, none⟩) h.lt).trans h.c5,
   (hb.cell (p := ⟨B, 6, none⟩) h.lt).trans h.c6, (hb.cell (p := ⟨B, 7, none⟩) h.lt).trans h.c7, (hb.cell (p := ⟨B, 8, none⟩) h.lt).trans h.c8, (hb.cell (p := ⟨B, 9, none⟩) h.lt).trans h.c9, (hb.cell (p := ⟨B, 10, none⟩) h.lt).trans h.c10, (hb.cell (p := ⟨B, 11, none⟩) h.lt).trans h.c11, below_then h.bel hb⟩
theorem KC.drew {w : World} {B : Nat} {c : Cfg} {w' : World} (h : KC w B c w') : KC w B c w'.drew := h.step ((Below.refl _ _).drew)
theorem KC.drewN {w : World} {B : Nat} {c : Cfg} {w' : World} (h : KC w B c w') (n : Nat) : KC w B c (w'.drewN n) := h.step (below_drewN (Below.refl _ _) n)
theorem KC.alloc {w : World} {B : Nat} {c : Cfg} {w' : World} (h : KC w B c w') (o : Obj) : KC w B c (w'.alloc o) := h.step (below_alloc0 (Below.refl _ _) o)
theorem KC.seven {w : World} {B : Nat} {c : Cfg} {w' : World} (h : KC w B c w') : (w'.cell? ⟨B, 0, none⟩ = some (.int .i64 c.a) ∧ w'.cell? ⟨B, 1, none⟩ = some (.int .i64 c.b) ∧ w'.cell? ⟨B, 2, none⟩ = some (.int .i64 c.c) ∧ w'.cell? ⟨B, 3, none⟩ = some (.int .i64 c.d) ∧ w'.cell? ⟨B, 4, none⟩ = some (.int .i64 c.e) ∧ w'.cell? ⟨B, 5, none⟩ = some (.int .i64 c.mr) ∧ w'.cell? ⟨B, 6, none⟩ = some (.int .i64 c.mu)) ∧ KC w B c w' :=
  ⟨⟨h.c0, h.c1, h.c2, h.c3, h.c4, h.c5, h.c6⟩, h⟩
theorem KC.more {X : Prop} {w : World} {B : Nat} {c : Cfg} {w' w2 : World} (h : X ∧ KC w B c w') (hb : Below w'.heap.size w' w2) : KC w B c w2 := h.2.step hb

theorem slots_lit (k v : Int) (h : slotsOf k = v) (w : World) : Calls Try.prog 33 #[.int .i64 k] w fun e w' => e = .returned (.int .i64 v) ∧ w' = w :=
  (slots_any k w).mono fun _ _ ⟨he, hb⟩ => ⟨by rw [he, h], hb.symm⟩
theorem pieces_lit (n d : Int) (h0 : 0 ≤ n) (h1 : n ≤ 1000) (h2 : d ≤ 1000) (w : World) : Calls Try.prog 62 #[.int .i64 n, .int .i64 d] w fun e w' => e = .returned (.int .i64 (piecesOf n d)) ∧ w' = w :=
  (pieces_any n d h0 h1 h2 w).mono fun _ _ ⟨he, hb⟩ => ⟨he, hb.symm⟩

set_option maxHeartbeats 2000000 in
set_option maxRecDepth 100000 in
theorem packets_any {c : Cfg} (h : OkC c) (w : World) : Calls Try.prog 32 #[cfgV c] w fun r w' => r = .returned (.int .i64 (packN c)) ∧ Below w.heap.size w w' := by
  have H := Lib.hid h
  have hp := (bds h).p1
  have hn0 := (bds h).n0
  have hn1 := (bds h).n1
  obtain ⟨a0, a1, b0, b1, c0, c1, d0, d1, e0, e1, s0, k0, k1, u0, u1, q0, q1, h0, h1, f0, f1, r0, r1, w0, w1⟩ := h
  obtain ⟨x0, x1⟩ := pieces_bd 1 c.ch (by omega) h0
  obtain ⟨y0, y1⟩ := pieces_bd 2 c.ch (by omega) h0
  obtain ⟨z0, z1⟩ := pieces_bd 4 c.ch (by omega) h0
  obtain ⟨u0', u1'⟩ := pieces_bd 8 c.ch (by omega) h0
  obtain ⟨v0, v1⟩ := pieces_bd 16 c.ch (by omega) h0
  obtain ⟨m0, m1⟩ := mul_bd a0 a1 x0 x1
  obtain ⟨m2, m3⟩ := mul_bd b0 b1 y0 y1
  obtain ⟨m4, m5⟩ := mul_bd c0 c1 z0 z1
  obtain ⟨m6, m7⟩ := mul_bd d0 d1 u0' u1'
  obtain ⟨m8, m9⟩ := mul_bd e0 e1 v0 v1
  clear s0 q0 q1 f0 f1 r0 r1 w0 w1
  have hk := KC.start c 71 w w (Below.refl _ _)
  go_enter Try.func32, Try.ntmps32
  go_wp2_with (fail)
  go_region_held3 (fun w' => (w'.cell? ⟨w.heap.size, 0, none⟩ = some (.int .i64 c.a) ∧ w'.cell? ⟨w.heap.size, 1, none⟩ = some (.int .i64 c.b) ∧ w'.cell? ⟨w.heap.size, 2, none⟩ = some (.int .i64 c.c) ∧ w'.cell? ⟨w.heap.size, 3, none⟩ = some (.int .i64 c.d) ∧ w'.cell? ⟨w.heap.size, 4, none⟩ = some (.int .i64 c.e) ∧ w'.cell? ⟨w.heap.size, 5, none⟩ = some (.int .i64 c.mr) ∧ w'.cell? ⟨w.heap.size, 6, none⟩ = some (.int .i64 c.mu)) ∧ KC w w.heap.size c w')
    (first | exact KC.seven (by assumption) | exact KC.seven (KC.drew (by assumption)) | fail)
    (first
      | (go_at_call 60; (with_reducible refine (nodes_ok H.out _).mono ?_); rintro r w2 ⟨rfl, hb2⟩; have hkk := KC.more (by assumption) hb2)
      | fail)
  have HKK := Lib.hid hkk
  obtain ⟨klt, q0, q1, q2, q3, q4, q5, q6, q7, q8, q9, q10, q11, qb⟩ := hkk
  clear q5 q6 q7 q9 q10 q11 qb hk
  have hch : c.ch ≤ 1000 := by omega
  go_wp2_with (fail)
  refine wp_loop_rounds 6 ?_
  rw [rounds_succ]; go_wp2
  go_quiet (first
    | (go_at_call 33; exact (slots_lit 0 1 rfl _).mono fun _ _ ⟨he, hm⟩ => ⟨he, _, hm⟩)
    | (go_at_call 62; exact (pieces_lit 1 _ (by decide) (by decide) hch _).mono fun _ _ ⟨he, hm⟩ => ⟨he, _, hm⟩)
    | fail)
  go_wp2
  rw [rounds_succ]; go_wp2
  go_quiet (first
    | (go_at_call 33; exact (slots_lit 1 2 rfl _).mono fun _ _ ⟨he, hm⟩ => ⟨he, _, hm⟩)
    | (go_at_call 62; exact (pieces_lit 2 _ (by decide) (by decide) hch _).mono fun _ _ ⟨he, hm⟩ => ⟨he, _, hm⟩)
    | fail)
  go_wp2
  rw [rounds_succ]; go_wp2
  go_quiet (first
    | (go_at_call 33; exact (slots_lit 2 4 rfl _).mono fun _ _ ⟨he, hm⟩ => ⟨he, _, hm⟩)
    | (go_at_call 62; exact (pieces_lit 4 _ (by decide) (by decide) hch _).mono fun _ _ ⟨he, hm⟩ => ⟨he, _, hm⟩)
    | fail)
  go_wp2
  rw [rounds_succ]; go_wp2
  go_quiet (first
    | (go_at_call 33; exact (slots_lit 3 8 rfl _).mono fun _ _ ⟨he, hm⟩ => ⟨he, _, hm⟩)
    | (go_at_call 62; exact (pieces_lit 8 _ (by decide) (by decide) hch _).mono fun _ _ ⟨he, hm⟩ => ⟨he, _, hm⟩)
    | fail)
  go_wp2
  rw [rounds_succ]; go_wp2
  go_quiet (first
    | (go_at_call 33; exact (slots_lit 4 16 rfl _).mono fun _ _ ⟨he, hm⟩ => ⟨he, _, hm⟩)
    | (go_at_call 62; exact (pieces_lit 16 _ (by decide) (by decide) hch _).mono fun _ _ ⟨he, hm⟩ => ⟨he, _, hm⟩)
    | fail)
  go_wp2
  rw [rounds_succ]; go_wp2
  go_ret
  exact ⟨ret_int (by unfold packN; omega), below_drewN HKK.out.bel _⟩
end Go.Proofs.Ytbjhciccpkbmoaa.Lay
