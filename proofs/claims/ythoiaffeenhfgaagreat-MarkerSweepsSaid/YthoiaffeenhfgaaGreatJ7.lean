/-  -/
import Derived.Test.YthoiaffeenhfgaaGreatLayMap
namespace Go.Proofs.YthoiaffeenhfgaaGreat.Lay
open Go.RowKit
set_option linter.unusedVariables false
structure KC (w : World) (B : Nat) (c : Cfg) (w' : World) : Prop where
  lt : B < w'.heap.size
  c0 : w'.cell? ⟨B, 0, none⟩ = some (.int .i64 c.a)
  c1 : w'.cell? ⟨B, 1, none⟩ = some (.int .i64 c.b)
  c2 : w'.cell? ⟨B, 2, none⟩ = some (.int .i64 c.c)
  c3 : w'.cell? ⟨B, 3, none⟩ = some (.int .i64 c.d)
  c4 : w'.cell? ⟨B, 4, none⟩ = some (.int .i64 c.e)
  c5 : w'.cell? ⟨B, 5, none⟩ = some (.int .i64 c.mr)
  c6 : w'.cell? ⟨B, 6, none⟩ = some (.int .i64 c.mu)
  c7 : w'.cell? ⟨B, 7, none⟩ = some (.int .i64 c.dq)
  c8 : w'.cell? ⟨B, 8, none⟩ = some (.int .i64 c.ch)
  c9 : w'.cell? ⟨B, 9, none⟩ = some (.int .i64 c.bf)
  c10 : w'.cell? ⟨B, 10, none⟩ = some (.int .i64 c.rt)
  c11 : w'.cell? ⟨B, 11, none⟩ = some (.int .i64 c.sw)
  bel : Below w.heap.size w w'
theorem KC.start (c : Cfg) (t : TypeId) (w w1 : World) (h : Below w.heap.size w w1) : KC w w1.heap.size c (w1.alloc (cfgO c t)) := by
  refine ⟨by simp, ?_, ?_, ?_, ?_, ?_, ?_, ?_, ?_, ?_, ?_, ?_, ?_, below_alloc0 h _⟩
  all_goals (rw [World.cell?_alloc_at _ _ _ _ rfl]; rfl)
theorem KC.step {w : World} {B : Nat} {c : Cfg} {w' w2 : World} (h : KC w B c w') (hb : Below w'.heap.size w' w2) : KC w B c w2 :=
  ⟨Nat.lt_of_lt_of_le h.lt hb.size, (hb.cell (p := ⟨B, 0, none⟩) h.lt).trans h.c0, (hb.cell (p := ⟨B, 1, none⟩) h.lt).trans h.c1, (hb.cell (p := ⟨B, 2, none⟩) h.lt).trans h.c2, (hb.cell (p := ⟨B, 3, none⟩) h.lt).trans h.c3, (hb.cell (p := ⟨B, 4, none⟩) h.lt).trans h.c4, (hb.cell (p := ⟨B, 5, none⟩) h.lt).trans h.c5,
   (hb.cell (p := ⟨B, 6, none⟩) h.lt).trans h.c6, (hb.cell (p := ⟨B, 7, none⟩) h.lt).trans h.c7, (hb.cell (p := ⟨B, 8, none⟩) h.lt).trans h.c8, (hb.cell (p := ⟨B, 9, none⟩) h.lt).trans h.c9, (hb.cell (p := ⟨B, 10, none⟩) h.lt).trans h.c10, (hb.cell (p := ⟨B, 11, none⟩) h.lt).trans h.c11, below_then h.bel hb⟩
theorem KC.drew {w : World} {B : Nat} {c : Cfg} {w' : World} (h : KC w B c w') : KC w B c w'.drew := h.step ((Below.refl _ _).drew)
theorem KC.seven {w : World} {B : Nat} {c : Cfg} {w' : World} (h : KC w B c w') : (w'.cell? ⟨B, 0, none⟩ = some (.int .i64 c.a) ∧ w'.cell? ⟨B, 1, none⟩ = some (.int .i64 c.b) ∧ w'.cell? ⟨B, 2, none⟩ = some (.int .i64 c.c) ∧ w'.cell? ⟨B, 3, none⟩ = some (.int .i64 c.d) ∧ w'.cell? ⟨B, 4, none⟩ = some (.int .i64 c.e) ∧ w'.cell? ⟨B, 5, none⟩ = some (.int .i64 c.mr) ∧ w'.cell? ⟨B, 6, none⟩ = some (.int .i64 c.mu)) ∧ KC w B c w' :=
  ⟨⟨h.c0, h.c1, h.c2, h.c3, h.c4, h.c5, h.c6⟩, h⟩
theorem KC.more {X : Prop} {w : World} {B : Nat} {c : Cfg} {w' w2 : World} (h : X ∧ KC w B c w') (hb : Below w'.heap.size w' w2) : KC w B c w2 := h.2.step hb
theorem slots_lit (k v : Int) (h : slotsOf k = v) (w : World) : Calls Tryz.prog 44 #[.int .i64 k] w fun e w' => e = .returned (.int .i64 v) ∧ w' = w :=
  (slots_any k w).mono fun _ _ ⟨he, hb⟩ => ⟨by rw [he, h], hb.symm⟩
theorem pieces_lit (n d : Int) (h0 : 0 ≤ n) (h1 : n ≤ 1000) (h2 : d ≤ 1000) (w : World) : Calls Tryz.prog 75 #[.int .i64 n, .int .i64 d] w fun e w' => e = .returned (.int .i64 (piecesOf n d)) ∧ w' = w :=
  (pieces_any n d h0 h1 h2 w).mono fun _ _ ⟨he, hb⟩ => ⟨he, hb.symm⟩
set_option maxHeartbeats 2000000 in
set_option maxRecDepth 100000 in
theorem packets_any {c : Cfg} (h : OkC c) (w : World) : Calls Tryz.prog 43 #[cfgV c] w fun r w' => r = .returned (.int .i64 (packN c)) ∧ Below w.heap.size w w' := by
  have H := Lib.hid h
  have hp := (bds h).p1
  have hn0 := (bds h).n0
  have hn1 := (bds h).n1
  obtain ⟨a0, a1, b0, b1, c0, c1, d0, d1, e0, e1, s0, k0, k1, u0, u1, q0, q1, h0, h1, f0, f1, r0, r1, w0, w1⟩ := h
  obtain ⟨x0, x1⟩ := pieces_bd 1 c.ch (by omega) h0
  obtain ⟨y0, y1⟩ := pieces_bd 2 c.ch (by omega) h0
  obtain ⟨z0, z1⟩ := pieces_bd 4 c.ch (by omega) h0
  obtain ⟨u0', u1'⟩ := pieces_bd 8 c.ch (by omega) h0
  obtain ⟨v0, v1⟩ := pieces_bd 16 c.ch (by omega) h0
  obtain ⟨m0, m1⟩ := mul_bd a0 a1 x0 x1
  obtain ⟨m2, m3⟩ := mul_bd b0 b1 y0 y1
  obtain ⟨m4, m5⟩ := mul_bd c0 c1 z0 z1
  obtain ⟨m6, m7⟩ := mul_bd d0 d1 u0' u1'
  obtain ⟨m8, m9⟩ := mul_bd e0 e1 v0 v1
  clear s0 q0 q1 f0 f1 r0 r1 w0 w1
  have hk := KC.start c 73 w w (Below.refl _ _)
  go_enter Tryz.func43, Tryz.ntmps43
  go_wp2_with (fail)
  go_region_held3 (fun w' => (w'.cell? ⟨w.heap.size, 0, none⟩ = some (.int .i64 c.a) ∧ w'.cell? ⟨w.heap.size, 1, none⟩ = some (.int .i64 c.b) ∧ w'.cell? ⟨w.heap.size, 2, none⟩ = some (.int .i64 c.c) ∧ w'.cell? ⟨w.heap.size, 3, none⟩ = some (.int .i64 c.d) ∧ w'.cell? ⟨w.heap.size, 4, none⟩ = some (.int .i64 c.e) ∧ w'.cell? ⟨w.heap.size, 5, none⟩ = some (.int .i64 c.mr) ∧ w'.cell? ⟨w.heap.size, 6, none⟩ = some (.int .i64 c.mu)) ∧ KC w w.heap.size c w')
    (first | exact KC.seven (by assumption) | exact KC.seven (KC.drew (by assumption)) | fail)
    (first
      | (go_at_call 64; (with_reducible refine (nodes_ok H.out _).mono ?_); rintro r w2 ⟨rfl, hb2⟩; have hkk := KC.more (by assumption) hb2)
      | fail)
  have HKK := Lib.hid hkk
  obtain ⟨klt, q0, q1, q2, q3, q4, q5, q6, q7, q8, q9, q10, q11, qb⟩ := hkk
  clear q5 q6 q7 q9 q10 q11 qb hk
  have hch : c.ch ≤ 1000 := by omega
  go_wp2_with (fail)
  refine wp_loop_rounds 6 ?_
  rw [rounds_succ]; go_wp2
  go_quiet (first
    | (go_at_call 44; exact (slots_lit 0 1 rfl _).mono fun _ _ ⟨he, hm⟩ => ⟨he, _, hm⟩)
    | (go_at_call 75; exact (pieces_lit 1 _ (by decide) (by decide) hch _).mono fun _ _ ⟨he, hm⟩ => ⟨he, _, hm⟩)
    | fail)
  go_wp2
  rw [rounds_succ]; go_wp2
  go_quiet (first
    | (go_at_call 44; exact (slots_lit 1 2 rfl _).mono fun _ _ ⟨he, hm⟩ => ⟨he, _, hm⟩)
    | (go_at_call 75; exact (pieces_lit 2 _ (by decide) (by decide) hch _).mono fun _ _ ⟨he, hm⟩ => ⟨he, _, hm⟩)
    | fail)
  go_wp2
  rw [rounds_succ]; go_wp2
  go_quiet (first
    | (go_at_call 44; exact (slots_lit 2 4 rfl _).mono fun _ _ ⟨he, hm⟩ => ⟨he, _, hm⟩)
    | (go_at_call 75; exact (pieces_lit 4 _ (by decide) (by decide) hch _).mono fun _ _ ⟨he, hm⟩ => ⟨he, _, hm⟩)
    | fail)
  go_wp2
  rw [rounds_succ]; go_wp2
  go_quiet (first
    | (go_at_call 44; exact (slots_lit 3 8 rfl _).mono fun _ _ ⟨he, hm⟩ => ⟨he, _, hm⟩)
    | (go_at_call 75; exact (pieces_lit 8 _ (by decide) (by decide) hch _).mono fun _ _ ⟨he, hm⟩ => ⟨he, _, hm⟩)
    | fail)
  go_wp2
  rw [rounds_succ]; go_wp2
  go_quiet (first
    | (go_at_call 44; exact (slots_lit 4 16 rfl _).mono fun _ _ ⟨he, hm⟩ => ⟨he, _, hm⟩)
    | (go_at_call 75; exact (pieces_lit 16 _ (by decide) (by decide) hch _).mono fun _ _ ⟨he, hm⟩ => ⟨he, _, hm⟩)
    | fail)
  go_wp2
  rw [rounds_succ]; go_wp2
  go_ret
  exact ⟨ret_int (by unfold packN; omega), below_drewN HKK.out.bel _⟩
end Go.Proofs.YthoiaffeenhfgaaGreat.Lay

namespace Go.Proofs.YthoiaffeenhfgaaGreat.Lay
open Go.RowKit
set_option linter.unusedVariables false
def ksOf (c : Cfg) : List Int := pre c.a c.b c.c c.d c.e 5
def roomsI (c : Cfg) : List Int := (ksOf c).map slotsOf
theorem ks_len {c : Cfg} (h : OkC c) : ((ksOf c).length : Int) = nodesN c := by
  unfold ksOf; rw [pre_length, many_is ⟨h.a0, h.a1⟩, many_is ⟨h.b0, h.b1⟩, many_is ⟨h.c0, h.c1⟩, many_is ⟨h.d0, h.d1⟩, many_is ⟨h.e0, h.e1⟩]; rfl
theorem ks_len60 (c : Cfg) : (ksOf c).length ≤ 60 := pre_len _ _ _ _ _ 5
theorem rooms_len (c : Cfg) : (roomsI c).length = (ksOf c).length := by simp [roomsI]
theorem rooms_get (c : Cfg) (k : Nat) (h : k < (ksOf c).length) : (roomsI c).getD k 0 = slotsOf ((ksOf c).getD k 0) := by
  simp [roomsI, List.getD, List.getElem?_map, List.getElem?_eq_getElem h]
end Go.Proofs.YthoiaffeenhfgaaGreat.Lay

namespace Go.Proofs.YthoiaffeenhfgaaGreat.Lay
open Go.RowKit
set_option linter.unusedVariables false
def roomsN (c : Cfg) : List Nat := (ksOf c).map fun k => (slotsOf k).toNat
def shOf (c : Cfg) : Sh := ⟨c.mu.toNat, c.mr.toNat, c.dq.toNat, (packN c).toNat, roomsN c⟩
theorem roomsN_len (c : Cfg) : (roomsN c).length = (ksOf c).length := by simp [roomsN]
theorem roomsN_get (c : Cfg) (k : Nat) (h : k < (ksOf c).length) : (((roomsN c).getD k 0 : Nat) : Int) = slotsOf ((ksOf c).getD k 0) := by
  have := slots_bd ((ksOf c).getD k 0)
  simp only [roomsN, List.getD, List.getElem?_map, List.getElem?_eq_getElem h, Option.map_some, Option.getD_some] at *
  omega
end Go.Proofs.YthoiaffeenhfgaaGreat.Lay

namespace Go.Proofs.YthoiaffeenhfgaaGreat.Lay
open Go.RowKit
set_option linter.unusedVariables false
def kindV (c : Cfg) (v : Int) : Int := kindOf c.a c.b c.c c.d c.e v
theorem kindV_cases {c : Cfg} (h : OkC c) (v : Int) :
    (kindV c v = -1 ∧ (v < 1 ∨ nodesN c < v)) ∨ (kindV c v = 0 ∧ 1 ≤ v ∧ v ≤ c.a) ∨ (kindV c v = 1 ∧ c.a < v ∧ v ≤ c.a + c.b) ∨ (kindV c v = 2 ∧ c.a + c.b < v ∧ v ≤ c.a + c.b + c.c) ∨
    (kindV c v = 3 ∧ c.a + c.b + c.c < v ∧ v ≤ c.a + c.b + c.c + c.d) ∨ (kindV c v = 4 ∧ c.a + c.b + c.c + c.d < v ∧ v ≤ nodesN c) := by
  unfold kindV kindOf nodesN
  rw [many_is ⟨h.a0, h.a1⟩, many_is ⟨h.b0, h.b1⟩, many_is ⟨h.c0, h.c1⟩, many_is ⟨h.d0, h.d1⟩, many_is ⟨h.e0, h.e1⟩]
  omega
theorem ks_get {c : Cfg} (i : Nat) (h : i < (ksOf c).length) : (ksOf c).getD i 0 = kindV c (i + 1) := pre_at _ _ _ _ _ i h
theorem r_get {c : Cfg} (i : Nat) (h : i < (ksOf c).length) : (((roomsN c).getD i 0 : Nat) : Int) = slotsOf (kindV c (i + 1)) := by
  rw [roomsN_get c i h, ks_get i h]
theorem off_run (r : List Nat) (s x : Nat) : ∀ m, (∀ i, i < m → r.getD (s + i) 0 = x) → off r (s + m) = off r s + m * (4 + x)
  | 0, _ => by simp
  | m + 1, h => by
    have ih := off_run r s x m (fun i hi => h i (by omega))
    rw [← Nat.add_assoc, off, ih, h m (by omega), Nat.succ_mul]; omega
theorem b1_eq {c : Cfg} (h : OkC c) : ((b1 (shOf c) : Nat) : Int) = at3 c := by
  have := h.u0
  simp only [b1, shOf, at3]; omega
theorem mul_cast {x y : Int} (hx : 0 ≤ x) (hy : 0 ≤ y) : ((x.toNat * (y.toNat + 2) : Nat) : Int) = x * (2 + y) := by
  rw [Int.natCast_mul, Int.natCast_add, Int.toNat_of_nonneg hx, Int.toNat_of_nonneg hy, Int.add_comm y]; rfl
theorem b2_eq {c : Cfg} (h : OkC c) : ((b2 (shOf c) : Nat) : Int) = at4 c := by
  have e := b1_eq h
  have m := mul_cast (x := c.mr) (y := c.dq) (by have := h.k0; omega) (by have := h.q0; omega)
  simp only [b2, at4, Int.natCast_add, e]
  show at3 c + ((c.mr.toNat * (c.dq.toNat + 2) : Nat) : Int) = _
  rw [m]
theorem b3_eq {c : Cfg} (h : OkC c) : ((b3 (shOf c) : Nat) : Int) = at50 c := by
  have e := b2_eq h
  have := (bds h).p0
  simp only [b3, at50, Int.natCast_add, e]
  show at4 c + (((packN c).toNat * 6 : Nat) : Int) = _
  omega
def rA (c : Cfg) (k : Int) : Int := if k = 0 then at50 c else if k = 1 then at51 c else if k = 2 then at52 c else if k = 3 then at53 c else if k = 4 then at54 c else 0
def rF (c : Cfg) (k : Int) : Int := if k = 0 then 1 else if k = 1 then 1 + c.a else if k = 2 then 1 + c.a + c.b else if k = 3 then 1 + c.a + c.b + c.c else if k = 4 then 1 + c.a + c.b + c.c + c.d else 0
def rM (c : Cfg) (k : Int) : Int := if k = 0 then c.a else if k = 1 then c.b else if k = 2 then c.c else if k = 3 then c.d else if k = 4 then c.e else 0
def rW (k : Int) : Int := if 0 ≤ k ∧ k ≤ 4 then 4 else 0
structure Offs (c : Cfg) : Prop where
  o0 : ∀ v : Nat, 1 ≤ v → (v : Int) ≤ c.a → ((off (roomsN c) (v - 1) : Nat) : Int) = ((v : Int) - 1) * 5
  o1 : ∀ v : Nat, c.a < (v : Int) → (v : Int) ≤ c.a + c.b → ((off (roomsN c) (v - 1) : Nat) : Int) = c.a * 5 + ((v : Int) - (1 + c.a)) * 6
  o2 : ∀ v : Nat, c.a + c.b < (v : Int) → (v : Int) ≤ c.a + c.b + c.c → ((off (roomsN c) (v - 1) : Nat) : Int) = c.a * 5 + c.b * 6 + ((v : Int) - (1 + c.a + c.b)) * 8
  o3 : ∀ v : Nat, c.a + c.b + c.c < (v : Int) → (v : Int) ≤ c.a + c.b + c.c + c.d → ((off (roomsN c) (v - 1) : Nat) : Int) = c.a * 5 + c.b * 6 + c.c * 8 + ((v : Int) - (1 + c.a + c.b + c.c)) * 12
  o4 : ∀ v : Nat, c.a + c.b + c.c + c.d < (v : Int) → (v : Int) ≤ nodesN c → ((off (roomsN c) (v - 1) : Nat) : Int) = c.a * 5 + c.b * 6 + c.c * 8 + c.d * 12 + ((v : Int) - (1 + c.a + c.b + c.c + c.d)) * 20
  all : ((off (roomsN c) (ksOf c).length : Nat) : Int) = c.a * 5 + c.b * 6 + c.c * 8 + c.d * 12 + c.e * 20
theorem offs {c : Cfg} (h : OkC c) : Offs c := by
  have hl := ks_len h
  have a0 := h.a0; have b0 := h.b0; have c0 := h.c0; have d0 := h.d0; have e0 := h.e0
  obtain ⟨A, hA⟩ : ∃ A : Nat, (A : Int) = c.a := ⟨c.a.toNat, by omega⟩
  obtain ⟨B, hB⟩ : ∃ A : Nat, (A : Int) = c.b := ⟨c.b.toNat, by omega⟩
  obtain ⟨C, hC⟩ : ∃ A : Nat, (A : Int) = c.c := ⟨c.c.toNat, by omega⟩
  obtain ⟨D, hD⟩ : ∃ A : Nat, (A : Int) = c.d := ⟨c.d.toNat, by omega⟩
  obtain ⟨E, hE⟩ : ∃ A : Nat, (A : Int) = c.e := ⟨c.e.toNat, by omega⟩
  have hn : nodesN c = c.a + c.b + c.c + c.d + c.e := rfl
  have key : ∀ i : Nat, i < A + B + C + D + E → (roomsN c).getD i 0 = if i < A then 1 else if i < A + B then 2 else if i < A + B + C then 4 else if i < A + B + C + D then 8 else 16 := by
    intro i hi
    have g := r_get (c := c) i (by omega)
    have s0 : slotsOf 0 = 1 := rfl
    have s1 : slotsOf 1 = 2 := rfl
    have s2 : slotsOf 2 = 4 := rfl
    have s3 : slotsOf 3 = 8 := rfl
    have s4 : slotsOf 4 = 16 := rfl
    rcases kindV_cases h ((i : Int) + 1) with ⟨hk, hv⟩ | ⟨hk, hv⟩ | ⟨hk, hv⟩ | ⟨hk, hv⟩ | ⟨hk, hv⟩ | ⟨hk, hv⟩
    · omega
    · rw [hk, s0] at g; rw [if_pos (by omega)]; omega
    · rw [hk, s1] at g; rw [if_neg (by omega), if_pos (by omega)]; omega
    · rw [hk, s2] at g; rw [if_neg (by omega), if_neg (by omega), if_pos (by omega)]; omega
    · rw [hk, s3] at g; rw [if_neg (by omega), if_neg (by omega), if_neg (by omega), if_pos (by omega)]; omega
    · rw [hk, s4] at g; rw [if_neg (by omega), if_neg (by omega), if_neg (by omega), if_neg (by omega)]; omega
  have r0 : ∀ m, m ≤ A → off (roomsN c) (0 + m) = off (roomsN c) 0 + m * (4 + 1) := fun m hm => off_run _ 0 1 m (fun i hi => by rw [key _ (by omega), if_pos (by omega)])
  have r1 : ∀ m, m ≤ B → off (roomsN c) (A + m) = off (roomsN c) A + m * (4 + 2) := fun m hm => off_run _ A 2 m (fun i hi => by rw [key _ (by omega), if_neg (by omega), if_pos (by omega)])
  have r2 : ∀ m, m ≤ C → off (roomsN c) (A + B + m) = off (roomsN c) (A + B) + m * (4 + 4) := fun m hm => off_run _ (A + B) 4 m (fun i hi => by rw [key _ (by omega), if_neg (by omega), if_neg (by omega), if_pos (by omega)])
  have r3 : ∀ m, m ≤ D → off (roomsN c) (A + B + C + m) = off (roomsN c) (A + B + C) + m * (4 + 8) := fun m hm => off_run _ (A + B + C) 8 m (fun i hi => by rw [key _ (by omega), if_neg (by omega), if_neg (by omega), if_neg (by omega), if_pos (by omega)])
  have r4 : ∀ m, m ≤ E → off (roomsN c) (A + B + C + D + m) = off (roomsN c) (A + B + C + D) + m * (4 + 16) := fun m hm => off_run _ (A + B + C + D) 16 m (fun i hi => by rw [key _ (by omega), if_neg (by omega), if_neg (by omega), if_neg (by omega), if_neg (by omega)])
  have z : off (roomsN c) 0 = 0 := rfl
  have t0 := r0 A (Nat.le_refl _)
  have t1 := r1 B (Nat.le_refl _)
  have t2 := r2 C (Nat.le_refl _)
  have t3 := r3 D (Nat.le_refl _)
  have t4 := r4 E (Nat.le_refl _)
  rw [Nat.zero_add] at t0
  refine ⟨fun v h1 h2 => ?_, fun v h1 h2 => ?_, fun v h1 h2 => ?_, fun v h1 h2 => ?_, fun v h1 h2 => ?_, ?_⟩
  · have e := r0 (v - 1) (by omega); rw [show 0 + (v - 1) = v - 1 by omega] at e; omega
  · have e := r1 (v - 1 - A) (by omega); rw [show A + (v - 1 - A) = v - 1 by omega] at e; omega
  · have e := r2 (v - 1 - (A + B)) (by omega); rw [show A + B + (v - 1 - (A + B)) = v - 1 by omega] at e; omega
  · have e := r3 (v - 1 - (A + B + C)) (by omega); rw [show A + B + C + (v - 1 - (A + B + C)) = v - 1 by omega] at e; omega
  · have e := r4 (v - 1 - (A + B + C + D)) (by omega); rw [show A + B + C + D + (v - 1 - (A + B + C + D)) = v - 1 by omega] at e; omega
  · rw [show (ksOf c).length = A + B + C + D + E by omega]; omega
theorem lenL_eq {c : Cfg} (h : OkC c) : ((lenL (shOf c) : Nat) : Int) = at55 c := by
  have e := b3_eq h
  have o := (offs h).all
  have hl : (shOf c).r.length = (ksOf c).length := roomsN_len c
  simp only [lenL, Int.natCast_add, e, hl]
  show at50 c + ((off (roomsN c) (ksOf c).length : Nat) : Int) = _
  rw [o]; simp only [at55, at54, at53, at52, at51]; omega
theorem node_at {c : Cfg} (h : OkC c) (v j : Int) : wordL (rA c (kindV c v)) (rF c (kindV c v)) (rM c (kindV c v)) (rW (kindV c v)) (slotsOf (kindV c v)) v j
    = if 1 ≤ v ∧ v ≤ nodesN c then (b3 (shOf c) : Int) + (off (shOf c).r (v - 1).toNat : Nat) + j else -1 := by
  have e := b3_eq h
  have o := offs h
  have a0 := h.a0; have b0 := h.b0; have c0 := h.c0; have d0 := h.d0; have e0 := h.e0
  have hn : nodesN c = c.a + c.b + c.c + c.d + c.e := rfl
  have h5 : at51 c = at50 c + c.a * 5 ∧ at52 c = at51 c + c.b * 6 ∧ at53 c = at52 c + c.c * 8 ∧ at54 c = at53 c + c.d * 12 := ⟨rfl, rfl, rfl, rfl⟩
  rw [e]
  show _ = if _ then at50 c + ((off (roomsN c) (v - 1).toNat : Nat) : Int) + j else -1
  rcases kindV_cases h v with ⟨hk, hv⟩ | ⟨hk, hv⟩ | ⟨hk, hv⟩ | ⟨hk, hv⟩ | ⟨hk, hv⟩ | ⟨hk, hv⟩
  · rw [hk, if_neg (by omega)]; simp [wordL, rF, rM]; omega
  · have := o.o0 v.toNat (by omega) (by omega)
    rw [hk, if_pos (by omega), show (v - 1).toNat = v.toNat - 1 by omega, this]
    simp only [wordL, rA, rF, rM, rW, slotsOf]; simp; rw [if_pos (by omega)]; omega
  · have := o.o1 v.toNat (by omega) (by omega)
    rw [hk, if_pos (by omega), show (v - 1).toNat = v.toNat - 1 by omega, this]
    simp only [wordL, rA, rF, rM, rW, slotsOf]; simp; rw [if_pos (by omega)]; omega
  · have := o.o2 v.toNat (by omega) (by omega)
    rw [hk, if_pos (by omega), show (v - 1).toNat = v.toNat - 1 by omega, this]
    simp only [wordL, rA, rF, rM, rW, slotsOf]; simp; rw [if_pos (by omega)]; omega
  · have := o.o3 v.toNat (by omega) (by omega)
    rw [hk, if_pos (by omega), show (v - 1).toNat = v.toNat - 1 by omega, this]
    simp only [wordL, rA, rF, rM, rW, slotsOf]; simp; rw [if_pos (by omega)]; omega
  · have := o.o4 v.toNat (by omega) (by omega)
    rw [hk, if_pos (by omega), show (v - 1).toNat = v.toNat - 1 by omega, this]
    simp only [wordL, rA, rF, rM, rW, slotsOf]; simp; rw [if_pos (by omega)]; omega
theorem shr_len {c : Cfg} (h : OkC c) : (((shOf c).r.length : Nat) : Int) = nodesN c := by
  rw [show (shOf c).r.length = (ksOf c).length from roomsN_len c]; exact ks_len h
theorem shr_get {c : Cfg} (h : OkC c) (v : Int) (h1 : 1 ≤ v) (h2 : v ≤ nodesN c) : (((shOf c).r.getD (v - 1).toNat 0 : Nat) : Int) = slotsOf (kindV c v) := by
  have := ks_len h
  have g := r_get (c := c) (v - 1).toNat (by omega)
  rw [show (((v - 1).toNat : Nat) : Int) + 1 = v by omega] at g
  exact g
abbrev plcc (c : Cfg) (k a b : Int) : Int := plc (shOf c) ⟨k, a, b⟩
theorem plc_single (c : Cfg) (j : Int) (h0 : 0 ≤ j) (h1 : j ≤ 5) : wordL 0 0 1 6 0 0 j = plcc c j 0 0 := by
  simp [wordL, plc]; omega
theorem plc_ack {c : Cfg} (h : OkC c) (i : Int) : wordL 6 0 c.mu 1 0 i 0 = plcc c 6 i 0 := by
  have := h.u0
  simp [wordL, plc, shOf]; split <;> split <;> omega
theorem plc_head {c : Cfg} (h : OkC c) (i : Int) : wordL (at2 c) 0 5 1 0 i 0 = plcc c 7 i 0 := by
  have := h.u0
  simp [wordL, plc, shOf, at2]; split <;> split <;> omega
theorem comm2 (i d : Int) : i * (2 + d) = i * (d + 2) := by rw [Int.add_comm]
theorem plc_top {c : Cfg} (h : OkC c) (i : Int) : wordL (at3 c) 0 c.mr 2 c.dq i 0 = plcc c 8 i 0 := by
  have := h.k0; have := h.q0
  have e := b1_eq h
  have hd : (((shOf c).D : Nat) : Int) = c.dq := by show ((c.dq.toNat : Nat) : Int) = _; omega
  have hm : (((shOf c).M : Nat) : Int) = c.mr := by show ((c.mr.toNat : Nat) : Int) = _; omega
  simp only [wordL, plc, e, hd, hm]; simp [comm2]; split <;> split <;> omega
theorem plc_bottom {c : Cfg} (h : OkC c) (i : Int) : wordL (at3 c) 0 c.mr 2 c.dq i 1 = plcc c 9 i 0 := by
  have := h.k0; have := h.q0
  have e := b1_eq h
  have hd : (((shOf c).D : Nat) : Int) = c.dq := by show ((c.dq.toNat : Nat) : Int) = _; omega
  have hm : (((shOf c).M : Nat) : Int) = c.mr := by show ((c.mr.toNat : Nat) : Int) = _; omega
  simp only [wordL, plc, e, hd, hm]; simp [comm2]; split <;> split <;> omega
theorem plc_entry {c : Cfg} (h : OkC c) (i j : Int) : itemL (at3 c) 0 c.mr 2 c.dq i j = plcc c 10 i j := by
  have := h.k0; have := h.q0
  have e := b1_eq h
  have hd : (((shOf c).D : Nat) : Int) = c.dq := by show ((c.dq.toNat : Nat) : Int) = _; omega
  have hm : (((shOf c).M : Nat) : Int) = c.mr := by show ((c.mr.toNat : Nat) : Int) = _; omega
  simp only [itemL, wordL, plc, e, hd, hm]; simp [comm2]
  by_cases h1 : 0 ≤ i ∧ i < c.mr <;> by_cases h2 : 0 ≤ j ∧ j < c.dq
  · rw [if_pos (by omega), if_pos (by omega), if_pos (by omega)]; omega
  · rw [if_neg (by omega), if_neg (by omega)]
  · rw [if_pos (by omega), if_neg (by omega), if_neg (by omega)]
  · rw [if_neg (by omega), if_neg (by omega)]
theorem plc_many {c : Cfg} (h : OkC c) (i : Int) : wordL (at4 c) 1 (packN c) 2 4 i 0 = plcc c 11 i 0 := by
  have e := b2_eq h
  have := (bds h).p0
  have hp : (((shOf c).P : Nat) : Int) = packN c := by show (((packN c).toNat : Nat) : Int) = _; omega
  simp only [wordL, plc, e, hp]; simp; split <;> split <;> omega
theorem plc_link {c : Cfg} (h : OkC c) (i : Int) : wordL (at4 c) 1 (packN c) 2 4 i 1 = plcc c 12 i 0 := by
  have e := b2_eq h
  have := (bds h).p0
  have hp : (((shOf c).P : Nat) : Int) = packN c := by show (((packN c).toNat : Nat) : Int) = _; omega
  simp only [wordL, plc, e, hp]; simp; split <;> split <;> omega
theorem plc_task {c : Cfg} (h : OkC c) (i j : Int) : itemL (at4 c) 1 (packN c) 2 4 i j = plcc c 13 i j := by
  have e := b2_eq h
  have := (bds h).p0
  have hp : (((shOf c).P : Nat) : Int) = packN c := by show (((packN c).toNat : Nat) : Int) = _; omega
  simp only [itemL, wordL, plc, e, hp]; simp
  by_cases h1 : 1 ≤ i ∧ i ≤ packN c <;> by_cases h2 : 0 ≤ j ∧ j < 4
  · rw [if_pos (by omega), if_pos (by omega), if_pos (by omega)]; omega
  · rw [if_neg (by omega), if_neg (by omega)]
  · rw [if_pos (by omega), if_neg (by omega), if_neg (by omega)]
  · rw [if_neg (by omega), if_neg (by omega)]
theorem plc_node {c : Cfg} (h : OkC c) (v j : Int) (h0 : 0 ≤ j) (h3 : j ≤ 3) : wordL (rA c (kindV c v)) (rF c (kindV c v)) (rM c (kindV c v)) (rW (kindV c v)) (slotsOf (kindV c v)) v j = plcc c (14 + j) v 0 := by
  have hl := shr_len h
  rw [node_at h]
  have : j = 0 ∨ j = 1 ∨ j = 2 ∨ j = 3 := by omega
  rcases this with rfl | rfl | rfl | rfl <;> (simp only [plc, hl]; simp)
theorem plc18 (c : Sh) (v j : Int) : plc c ⟨18, v, j⟩ = if 1 ≤ v ∧ v ≤ c.r.length ∧ 0 ≤ j ∧ j < c.r.getD (v - 1).toNat 0 then (b3 c : Int) + off c.r (v - 1).toNat + 4 + j else -1 := by
  simp only [plc]
  rw [if_neg (by decide), if_neg (by decide), if_neg (by decide), if_neg (by decide), if_neg (by decide), if_neg (by decide), if_neg (by decide), if_neg (by decide), if_neg (by decide), if_neg (by decide), if_neg (by decide), if_pos trivial]
theorem plc_slot {c : Cfg} (h : OkC c) (v j : Int) : itemL (rA c (kindV c v)) (rF c (kindV c v)) (rM c (kindV c v)) (rW (kindV c v)) (slotsOf (kindV c v)) v j = plcc c 18 v j := by
  have hl := shr_len h
  have hb := slots_bd (kindV c v)
  unfold itemL
  by_cases hv : 1 ≤ v ∧ v ≤ nodesN c
  · have g := shr_get h v hv.1 hv.2
    have hw : rW (kindV c v) = 4 := by
      unfold rW; rw [if_pos]
      rcases kindV_cases h v with ⟨hk, _⟩ | ⟨hk, _⟩ | ⟨hk, _⟩ | ⟨hk, _⟩ | ⟨hk, _⟩ | ⟨hk, _⟩ <;> omega
    by_cases hj : 0 ≤ j ∧ j < slotsOf (kindV c v)
    · rw [if_pos (by omega), node_at h, if_pos hv, hw]
      rw [plcc, plc18, hl, g, if_pos (by omega)]; omega
    · rw [if_neg (by omega)]
      rw [plcc, plc18, hl, g, if_neg (by omega)]
  · have : (if 0 ≤ j ∧ j ≤ slotsOf (kindV c v) - 1 then wordL (rA c (kindV c v)) (rF c (kindV c v)) (rM c (kindV c v)) (rW (kindV c v)) (slotsOf (kindV c v)) v (rW (kindV c v) + j) else -1) = -1 := by
      split
      · rw [node_at h, if_neg hv]
      · rfl
    rw [this]
    rw [plcc, plc18, hl, if_neg (by omega)]
end Go.Proofs.YthoiaffeenhfgaaGreat.Lay

namespace Go.Proofs.YthoiaffeenhfgaaGreat.Lay
open Go.RowKit
set_option linter.unusedVariables false
theorem norm_k (k a : Int) (h6 : 6 ≤ k) (h18 : k ≤ 18) : Norm ⟨k, a, 0⟩ := ⟨by show 0 ≤ k; omega, by show k ≤ 18; omega, fun h => by have h2 : k ≤ 5 := h; omega, fun _ _ _ => rfl⟩
def isTh (u t : Th) : Prop := u.k = t.k ∧ u.a = t.a ∧ u.b = t.b
instance (u t : Th) : Decidable (isTh u t) := by unfold isTh; infer_instance
theorem isTh_eq {u t : Th} (h : isTh u t) : u = t := Th.ext' h.1 h.2.1 h.2.2
def Rep (s : Sh) (L : List Int) (V : Th → Int) : Prop := L.length = lenL s ∧ ∀ t, Norm t → 0 ≤ plc s t → L.getD (plc s t).toNat 0 = V t
theorem plc_lt {s : Sh} {t : Th} (hn : Norm t) (h : 0 ≤ plc s t) : plc s t < lenL s := by
  rcases plc_spec s t hn with ⟨h1, _⟩ | ⟨i, hi, h1, _⟩
  · omega
  · rw [h1]; rw [things_len] at hi; omega
theorem plc_inj {s : Sh} {t u : Th} (ht : Norm t) (hu : Norm u) (h : 0 ≤ plc s t) (he : plc s u = plc s t) : u = t := by
  rcases plc_spec s t ht with ⟨h1, _⟩ | ⟨i, hi, h1, h2, _⟩
  · omega
  · rcases plc_spec s u hu with ⟨h3, _⟩ | ⟨j, hj, h3, h4, _⟩
    · omega
    · have : j = i := by omega
      subst this; rw [← h4, ← h2]
theorem Rep.zero (s : Sh) : Rep s (List.replicate (lenL s) 0) (fun _ => 0) :=
  ⟨by simp, fun t hn h => by have := plc_lt hn h; simp only [List.getD, List.getElem?_replicate]; split <;> rfl⟩
theorem Rep.congr {s : Sh} {L : List Int} {V V' : Th → Int} (h : Rep s L V) (hv : ∀ t, Norm t → V t = V' t) : Rep s L V' := ⟨h.1, fun t hn hp => by rw [h.2 t hn hp, hv t hn]⟩
theorem Rep.set {s : Sh} {L : List Int} {V V' : Th → Int} {t : Th} {x : Int} {H : Nat} (h : Rep s L V) (ht : Norm t) (hH : plc s t = (H : Int)) (hx : V' t = x) (hv : ∀ u, Norm u → u ≠ t → V' u = V u) : Rep s (L.set H x) V' := by
  have hp : 0 ≤ plc s t := by omega
  have hlt := plc_lt ht hp
  refine ⟨by simpa using h.1, fun u hu hup => ?_⟩
  by_cases e : u = t
  · subst e
    rw [show (plc s u).toNat = H by omega, hx]
    simp [List.getD, show H < L.length by rw [h.1]; omega]
  · have hne : (plc s u).toNat ≠ H := fun e2 => e (plc_inj ht hu hp (by omega))
    rw [hv u hu e, ← h.2 u hu hup]
    simp [List.getD, List.getElem?_set_ne hne.symm]
def stkV (V : Th → Int) (t : Th) (kd f l : Int) (u : Th) : Int :=
  if f ≤ l ∧ isTh u t then f else if u.k = kd ∧ f ≤ u.a ∧ u.a < l then u.a + 1 else V u
def stkTo (V : Th → Int) (t : Th) (kd f j : Int) (u : Th) : Int :=
  if isTh u t then f else if u.k = kd ∧ f ≤ u.a ∧ u.a < j then u.a + 1 else V u
theorem stk_none {V : Th → Int} {t : Th} {kd f l : Int} (h : l < f) (u : Th) : V u = stkV V t kd f l u := by
  unfold stkV; rw [if_neg (by omega), if_neg (by omega)]
theorem stk_head {s : Sh} {L : List Int} {V : Th → Int} {t : Th} {kd f : Int} {H : Nat} (h : Rep s L V) (ht : Norm t) (hH : plc s t = (H : Int)) : Rep s (L.set H f) (stkTo V t kd f f) :=
  h.set ht hH (by unfold stkTo; rw [if_pos ⟨rfl, rfl, rfl⟩]) (fun u hu hne => by unfold stkTo; rw [if_neg (fun e => hne (isTh_eq e)), if_neg (by omega)])
theorem stk_step {s : Sh} {L : List Int} {V : Th → Int} {t : Th} {kd f j : Int} {q : Nat} (h : Rep s L (stkTo V t kd f j)) (hk : t.k ≠ kd) (hkd : kd = 12 ∨ kd = 17) (hfj : f ≤ j) (hq : plc s ⟨kd, j, 0⟩ = (q : Int)) : Rep s (L.set q (j + 1)) (stkTo V t kd f (j + 1)) := by
  have hn : Norm ⟨kd, j, 0⟩ := norm_k kd j (by omega) (by omega)
  refine h.set hn hq ?_ (fun u hu hne => ?_)
  · unfold stkTo; rw [if_neg (fun e => hk e.1.symm), if_pos ⟨rfl, hfj, by show j < j + 1; omega⟩]
  · unfold stkTo
    by_cases e : isTh u t
    · rw [if_pos e, if_pos e]
    · rw [if_neg e, if_neg e]
      by_cases e2 : u.k = kd ∧ f ≤ u.a ∧ u.a < j + 1
      · have hb : u.b = 0 := by have := hu.2.2.2; omega
        have hj : u.a ≠ j := fun e3 => hne (Th.ext' e2.1 e3 hb)
        rw [if_pos e2, if_pos (by omega)]
      · rw [if_neg e2, if_neg (by omega)]
theorem stk_done {V : Th → Int} {t : Th} {kd f l : Int} (h : f ≤ l) (u : Th) : stkTo V t kd f l u = stkV V t kd f l u := by
  by_cases e : isTh u t
  · simp [stkV, stkTo, e, h]
  · simp [stkV, stkTo, e]
end Go.Proofs.YthoiaffeenhfgaaGreat.Lay

namespace Go.Proofs.YthoiaffeenhfgaaGreat.Lay
open Go.RowKit
set_option linter.unusedVariables false
theorem place_spec {s : Sh} {t : Th} (hn : Norm t) {k : Nat} (hk : k < (things s).length) (he : gt (things s) k = t) : plc s t = (k : Int) := by
  rw [← he]; have := seg_all s k hk; rw [this]; omega
end Go.Proofs.YthoiaffeenhfgaaGreat.Lay
