/- How many packets there are, walked. The document's own count of packets, walked. What a map is made of: lists of things, grown by one. -/
import Derived.Test.YtbpkcoemehmpbaaGreatLayMap
namespace Go.Proofs.YtbpkcoemehmpbaaGreat.Lay
open Go.RowKit
set_option linter.unusedVariables false

/-- A configuration that lies in memory. -/
structure KC (w : World) (B : Nat) (c : Cfg) (w' : World) : Prop where
  lt : B < w'.heap.size
  c0 : w'.cell? ⟨B, 0, none⟩ = some (.int .i64 c.a)
  c1 : w'.cell? ⟨B, 1, none⟩ = some (.int .i64 c.b)
  c2 : w'.cell? ⟨B, 2, none⟩ = some (.int .i64 c.c)
  c3 : w'.cell? ⟨B, 3, none⟩ = some (.int .i64 c.d)
  c4 : w'.cell? ⟨B, 4, none⟩ = some (.int .i64 c.e)
  c5 : w'.cell? ⟨B, 5, none⟩ = some (.int .i64 c.mr)
  c6 : w'.cell? ⟨B, 6, none⟩ = some (.int .i64 c.mu)
  c7 : w'.cell? ⟨B, 7, none⟩ = some (.int .i64 c.dq)
  c8 : w'.cell? ⟨B, 8, none⟩ = some (.int .i64 c.ch)
  c9 : w'.cell? ⟨B, 9, none⟩ = some (.int .i64 c.bf)
  c10 : w'.cell? ⟨B, 10, none⟩ = some (.int .i64 c.rt)
  c11 : w'.cell? ⟨B, 11, none⟩ = some (.int .i64 c.sw)
  bel : Below w.heap.size w w'
theorem KC.start (c : Cfg) (t : TypeId) (w w1 : World) (h : Below w.heap.size w w1) : KC w w1.heap.size c (w1.alloc (cfgO c t)) := by
  refine ⟨by simp, ?_, ?_, ?_, ?_, ?_, ?_, ?_, ?_, ?_, ?_, ?_, ?_, below_alloc0 h _⟩
  all_goals (rw [World.cell?_alloc_at _ _ _ _ rfl]; rfl)
theorem KC.step {w : World} {B : Nat} {c : Cfg} {w' w2 : World} (h : KC w B c w') (hb : Below w'.heap.size w' w2) : KC w B c w2 :=
  ⟨Nat.lt_of_lt_of_le h.lt hb.size, (hb.cell (p := ⟨B, 0, none⟩) h.lt).trans h.c0, (hb.cell (p := ⟨B, 1, none⟩) h.lt).trans h.c1, (hb.cell (p := ⟨B, 2, none⟩) h.lt).trans h.c2, (hb.cell (p := ⟨B, 3, none⟩) h.lt).trans h.c3, (hb.cell (p := ⟨B, 4, none⟩) h.lt).trans h.c4, (hb.cell (p := ⟨B, 5, none⟩) h.lt).trans h.c5,
   (hb.cell (p := ⟨B, 6, none⟩) h.lt).trans h.c6, (hb.cell (p := ⟨B, 7, none⟩) h.lt).trans h.c7, (hb.cell (p := ⟨B, 8, none⟩) h.lt).trans h.c8, (hb.cell (p := ⟨B, 9, none⟩) h.lt).trans h.c9, (hb.cell (p := ⟨B, 10, none⟩) h.lt).trans h.c10, (hb.cell (p := ⟨B, 11, none⟩) h.lt).trans h.c11, below_then h.bel hb⟩
theorem KC.drew {w : World} {B : Nat} {c : Cfg} {w' : World} (h : KC w B c w') : KC w B c w'.drew := h.step ((Below.refl _ _).drew)
theorem KC.drewN {w : World} {B : Nat} {c : Cfg} {w' : World} (h : KC w B c w') (n : Nat) : KC w B c (w'.drewN n) := h.step (below_drewN (Below.refl _ _) n)
theorem KC.alloc {w : World} {B : Nat} {c : Cfg} {w' : World} (h : KC w B c w') (o : Obj) : KC w B c (w'.alloc o) := h.step (below_alloc0 (Below.refl _ _) o)
theorem KC.seven {w : World} {B : Nat} {c : Cfg} {w' : World} (h : KC w B c w') : (w'.cell? ⟨B, 0, none⟩ = some (.int .i64 c.a) ∧ w'.cell? ⟨B, 1, none⟩ = some (.int .i64 c.b) ∧ w'.cell? ⟨B, 2, none⟩ = some (.int .i64 c.c) ∧ w'.cell? ⟨B, 3, none⟩ = some (.int .i64 c.d) ∧ w'.cell? ⟨B, 4, none⟩ = some (.int .i64 c.e) ∧ w'.cell? ⟨B, 5, none⟩ = some (.int .i64 c.mr) ∧ w'.cell? ⟨B, 6, none⟩ = some (.int .i64 c.mu)) ∧ KC w B c w' :=
  ⟨⟨h.c0, h.c1, h.c2, h.c3, h.c4, h.c5, h.c6⟩, h⟩
theorem KC.more {X : Prop} {w : World} {B : Nat} {c : Cfg} {w' w2 : World} (h : X ∧ KC w B c w') (hb : Below w'.heap.size w' w2) : KC w B c w2 := h.2.step hb

theorem slots_lit (k v : Int) (h : slotsOf k = v) (w : World) : Calls Tryz.prog 34 #[.int .i64 k] w fun e w' => e = .returned (.int .i64 v) ∧ w' = w :=
  (slots_any k w).mono fun _ _ ⟨he, hb⟩ => ⟨by rw [he, h], hb.symm⟩
theorem pieces_lit (n d : Int) (h0 : 0 ≤ n) (h1 : n ≤ 1000) (h2 : d ≤ 1000) (w : World) : Calls Tryz.prog 69 #[.int .i64 n, .int .i64 d] w fun e w' => e = .returned (.int .i64 (piecesOf n d)) ∧ w' = w :=
  (pieces_any n d h0 h1 h2 w).mono fun _ _ ⟨he, hb⟩ => ⟨he, hb.symm⟩

set_option maxHeartbeats 2000000 in
set_option maxRecDepth 100000 in
theorem packets_any {c : Cfg} (h : OkC c) (w : World) : Calls Tryz.prog 33 #[cfgV c] w fun r w' => r = .returned (.int .i64 (packN c)) ∧ Below w.heap.size w w' := by
  have H := Lib.hid h
  have hp := (bds h).p1
  have hn0 := (bds h).n0
  have hn1 := (bds h).n1
  obtain ⟨a0, a1, b0, b1, c0, c1, d0, d1, e0, e1, s0, k0, k1, u0, u1, q0, q1, h0, h1, f0, f1, r0, r1, w0, w1⟩ := h
  obtain ⟨x0, x1⟩ := pieces_bd 1 c.ch (by omega) h0
  obtain ⟨y0, y1⟩ := pieces_bd 2 c.ch (by omega) h0
  obtain ⟨z0, z1⟩ := pieces_bd 4 c.ch (by omega) h0
  obtain ⟨u0', u1'⟩ := pieces_bd 8 c.ch (by omega) h0
  obtain ⟨v0, v1⟩ := pieces_bd 16 c.ch (by omega) h0
  obtain ⟨m0, m1⟩ := mul_bd a0 a1 x0 x1
  obtain ⟨m2, m3⟩ := mul_bd b0 b1 y0 y1
  obtain ⟨m4, m5⟩ := mul_bd c0 c1 z0 z1
  obtain ⟨m6, m7⟩ := mul_bd d0 d1 u0' u1'
  obtain ⟨m8, m9⟩ := mul_bd e0 e1 v0 v1
  clear s0 q0 q1 f0 f1 r0 r1 w0 w1
  have hk := KC.start c 75 w w (Below.refl _ _)
  go_enter Tryz.func33, Tryz.ntmps33
  go_wp2_with (fail)
  go_region_held3 (fun w' => (w'.cell? ⟨w.heap.size, 0, none⟩ = some (.int .i64 c.a) ∧ w'.cell? ⟨w.heap.size, 1, none⟩ = some (.int .i64 c.b) ∧ w'.cell? ⟨w.heap.size, 2, none⟩ = some (.int .i64 c.c) ∧ w'.cell? ⟨w.heap.size, 3, none⟩ = some (.int .i64 c.d) ∧ w'.cell? ⟨w.heap.size, 4, none⟩ = some (.int .i64 c.e) ∧ w'.cell? ⟨w.heap.size, 5, none⟩ = some (.int .i64 c.mr) ∧ w'.cell? ⟨w.heap.size, 6, none⟩ = some (.int .i64 c.mu)) ∧ KC w w.heap.size c w')
    (first | exact KC.seven (by assumption) | exact KC.seven (KC.drew (by assumption)) | fail)
    (first
      | (go_at_call 67; (with_reducible refine (nodes_ok H.out _).mono ?_); rintro r w2 ⟨rfl, hb2⟩; have hkk := KC.more (by assumption) hb2)
      | fail)
  have HKK := Lib.hid hkk
  obtain ⟨klt, q0, q1, q2, q3, q4, q5, q6, q7, q8, q9, q10, q11, qb⟩ := hkk
  clear q5 q6 q7 q9 q10 q11 qb hk
  have hch : c.ch ≤ 1000 := by omega
  go_wp2_with (fail)
  refine wp_loop_rounds 6 ?_
  rw [rounds_succ]; go_wp2
  go_quiet (first
    | (go_at_call 34; exact (slots_lit 0 1 rfl _).mono fun _ _ ⟨he, hm⟩ => ⟨he, _, hm⟩)
    | (go_at_call 69; exact (pieces_lit 1 _ (by decide) (by decide) hch _).mono fun _ _ ⟨he, hm⟩ => ⟨he, _, hm⟩)
    | fail)
  go_wp2
  rw [rounds_succ]; go_wp2
  go_quiet (first
    | (go_at_call 34; exact (slots_lit 1 2 rfl _).mono fun _ _ ⟨he, hm⟩ => ⟨he, _, hm⟩)
    | (go_at_call 69; exact (pieces_lit 2 _ (by decide) (by decide) hch _).mono fun _ _ ⟨he, hm⟩ => ⟨he, _, hm⟩)
    | fail)
  go_wp2
  rw [rounds_succ]; go_wp2
  go_quiet (first
    | (go_at_call 34; exact (slots_lit 2 4 rfl _).mono fun _ _ ⟨he, hm⟩ => ⟨he, _, hm⟩)
    | (go_at_call 69; exact (pieces_lit 4 _ (by decide) (by decide) hch _).mono fun _ _ ⟨he, hm⟩ => ⟨he, _, hm⟩)
    | fail)
  go_wp2
  rw [rounds_succ]; go_wp2
  go_quiet (first
    | (go_at_call 34; exact (slots_lit 3 8 rfl _).mono fun _ _ ⟨he, hm⟩ => ⟨he, _, hm⟩)
    | (go_at_call 69; exact (pieces_lit 8 _ (by decide) (by decide) hch _).mono fun _ _ ⟨he, hm⟩ => ⟨he, _, hm⟩)
    | fail)
  go_wp2
  rw [rounds_succ]; go_wp2
  go_quiet (first
    | (go_at_call 34; exact (slots_lit 4 16 rfl _).mono fun _ _ ⟨he, hm⟩ => ⟨he, _, hm⟩)
    | (go_at_call 69; exact (pieces_lit 16 _ (by decide) (by decide) hch _).mono fun _ _ ⟨he, hm⟩ => ⟨he, _, hm⟩)
    | fail)
  go_wp2
  rw [rounds_succ]; go_wp2
  go_ret
  exact ⟨ret_int (by unfold packN; omega), below_drewN HKK.out.bel _⟩
end Go.Proofs.YtbpkcoemehmpbaaGreat.Lay

namespace Go.Proofs.YtbpkcoemehmpbaaGreat.Lay
open Go.RowKit
set_option linter.unusedVariables false

theorem OwnI.lower {k : IntKind} {e : TypeId} {w w2 wr : World} {v : Value} {l : List Int} (h : OwnI k e w2.heap.size w2 wr v l) (hb : Below w.heap.size w w2) : OwnI k e w.heap.size w wr v l :=
  ⟨h.1.mono hb.size, below_then hb h.2⟩
theorem KC.of {c : Cfg} {t : TypeId} {w wr : World} (h : Below (w.heap.size + 1) (w.alloc (cfgO c t)) wr) : KC w w.heap.size c wr := by
  have k := KC.start c t w w (Below.refl _ _)
  have hl : w.heap.size < w.heap.size + 1 := Nat.lt_succ_self _
  exact ⟨by have := h.size; simp at this; omega, (h.cell (p := ⟨_, 0, none⟩) hl).trans k.c0, (h.cell (p := ⟨_, 1, none⟩) hl).trans k.c1, (h.cell (p := ⟨_, 2, none⟩) hl).trans k.c2, (h.cell (p := ⟨_, 3, none⟩) hl).trans k.c3, (h.cell (p := ⟨_, 4, none⟩) hl).trans k.c4, (h.cell (p := ⟨_, 5, none⟩) hl).trans k.c5,
    (h.cell (p := ⟨_, 6, none⟩) hl).trans k.c6, (h.cell (p := ⟨_, 7, none⟩) hl).trans k.c7, (h.cell (p := ⟨_, 8, none⟩) hl).trans k.c8, (h.cell (p := ⟨_, 9, none⟩) hl).trans k.c9, (h.cell (p := ⟨_, 10, none⟩) hl).trans k.c10, (h.cell (p := ⟨_, 11, none⟩) hl).trans k.c11,
    k.bel.trans (h.mono (Nat.le_succ _))⟩

/-- The classes of all nodes; their rooms. -/
def ksOf (c : Cfg) : List Int := pre c.a c.b c.c c.d c.e 5
def roomsI (c : Cfg) : List Int := (ksOf c).map slotsOf
/-- A slice of numbers that was made. -/
def SomeI (k : IntKind) (e : TypeId) (l : List Int) (w : World) (en : Ending) (w' : World) : Prop := ∃ v, en = .returned v ∧ OwnI k e w.heap.size w w' v l

theorem all_own (c : Cfg) (w : World) : Calls Tryz.prog 48 #[.agg #[.int .i64 c.a, .int .i64 c.b, .int .i64 c.c, .int .i64 c.d, .int .i64 c.e]] w (SomeI .i64 3 (ksOf c) w) :=
  (all_any _ _ _ _ _ w).mono fun r w' ⟨v, he, ho⟩ => ⟨v, he, ho.1.mono (Nat.le_succ _), (below_alloc0 (Below.refl _ _) _).trans (ho.2.mono (Nat.le_succ _))⟩

theorem ks_len {c : Cfg} (h : OkC c) : ((ksOf c).length : Int) = nodesN c := by
  unfold ksOf; rw [pre_length, many_is ⟨h.a0, h.a1⟩, many_is ⟨h.b0, h.b1⟩, many_is ⟨h.c0, h.c1⟩, many_is ⟨h.d0, h.d1⟩, many_is ⟨h.e0, h.e1⟩]; rfl
theorem ks_len60 (c : Cfg) : (ksOf c).length ≤ 60 := pre_len _ _ _ _ _ 5
theorem rooms_len (c : Cfg) : (roomsI c).length = (ksOf c).length := by simp [roomsI]
theorem rooms_get (c : Cfg) (k : Nat) (h : k < (ksOf c).length) : (roomsI c).getD k 0 = slotsOf ((ksOf c).getD k 0) := by
  simp [roomsI, List.getD, List.getElem?_map, List.getElem?_eq_getElem h]
theorem take_snocI (l : List Int) (k : Nat) (h : k < l.length) : l.take (k + 1) = l.take k ++ [l.getD k 0] := by
  rw [List.take_succ_eq_append_getElem h, List.getD_eq_getElem?_getD, List.getElem?_eq_getElem h]; rfl

set_option maxHeartbeats 2000000 in
set_option maxRecDepth 100000 in
theorem rooms_any (c : Cfg) (w : World) : Calls Tryz.prog 70 #[cfgV c] w (SomeI .i64 3 (roomsI c) w) := by
  have hk0 := KC.start c 38 w w (Below.refl _ _)
  have h60 := ks_len60 c
  go_enter Tryz.func70, Tryz.ntmps70
  go_wp2_with (first
    | (go_at_call 48; (with_reducible refine (all_own c _).mono ?_); rintro r w2 ⟨v, rfl, ho⟩)
    | fail)
  have hb0 : Below w.heap.size w w2 := below_then (below_alloc0 (Below.refl _ _) _) ho.2
  obtain ⟨A, cap, rfl, hA, hA0, hcap, hcm⟩ := ho.reads
  obtain ⟨L, hL⟩ : ∃ L, L = ksOf c := ⟨_, rfl⟩
  obtain ⟨M, hM⟩ : ∃ M, M = roomsI c := ⟨_, rfl⟩
  rw [← hL] at hA h60 ⊢
  have hML : M.length = L.length := by rw [hM, hL]; exact rooms_len c
  have hMg : ∀ k, k < L.length → M.getD k 0 = slotsOf (L.getD k 0) := fun k hk => by rw [hM, hL] at *; exact rooms_get c k hk
  have HM := Lib.hid hM; have HML := Lib.hid hML; have HMG := Lib.hid hMg; have HA := Lib.hid hA; have HB0 := Lib.hid hb0
  clear hk0 ho hA hA0 hcap hcm hL hM hML hMg hb0
  go_wp2_with (fail)
  go_loopw [3, 5] (fun v i wr => ∃ (k : Nat), k ≤ L.length ∧ i = .int .i64 (k : Int) ∧ OwnI .i64 3 w2.heap.size w2 wr v (M.take k)) (fun _ i _ => L.length - (intOf i).toNat)
  case atStart => exact ⟨0, Nat.zero_le _, rfl, OwnI.nil (Below.refl _ _)⟩
  case round =>
    obtain ⟨k, hk, rfl, hO⟩ := hrel
    by_cases hlt : k < L.length
    · obtain ⟨b, off, rfl, hbl, hcell⟩ := HA.out (by omega)
      have hc1 := (hO.2.cell (p := ⟨b, off + k, none⟩) hbl).trans (hcell k hlt)
      have hst := take_snocI M k (by have := HML.out; omega)
      rw [HMG.out k hlt] at hst
      have hlen : (M.take k).length ≤ 1000 := by rw [List.length_take]; omega
      obtain ⟨X, hX⟩ : ∃ X, X = L.getD k 0 := ⟨_, rfl⟩
      rw [← hX] at hc1 hst
      have HS := Lib.hid hst
      have HO := Lib.hid hO
      have HL := Lib.hid hlen
      have hk0 : (0 : Int) ≤ (k : Int) := by omega
      have hk1 : (k : Int) < (L.length : Int) := by omega
      clear hst hO hlen hX hcell hbl
      go_wp2_with (first
        | (go_at_call 86; (with_reducible refine (refSlots_any _ _).mono ?_); rintro r w5 ⟨rfl, rfl⟩)
        | (at_builtin; refine append_int rfl _ _ 46 3 rfl Tryz.underlying46 info3 _ _ _ _ rfl HO.out rfl ?_ ?_ ?_; (have := HL.out; omega); (exact Nat.le_refl _); intro v' w5 HO5)
        | fail)
      go_roundw
      case rel => exact ⟨k + 1, by omega, by go_num, by rw [HS.out]; exact HO5⟩
      case measure => simp [intOf]; omega
    · have hd : M.take k = M := List.take_of_length_le (by have := HML.out; omega)
      have HD := Lib.hid hd
      have HO := Lib.hid hO
      clear hd hO
      go_wp2
      go_ret
      exact ⟨_, rfl, by rw [← HM.out, ← HD.out]; exact HO.out.lower HB0.out⟩

/-- The pieces of rooms. -/
def psum (ch : Int) (l : List Int) : Int := (l.map fun r => piecesOf r ch).sum
theorem psum_app (ch : Int) (l m : List Int) : psum ch (l ++ m) = psum ch l + psum ch m := by unfold psum; simp
theorem psum_rep (ch : Int) (n : Nat) (k : Int) : psum ch (List.replicate n k) = n * piecesOf k ch := by
  induction n with
  | zero => simp [psum]
  | succ n ih => rw [List.replicate_succ', psum_app, ih]; simp [psum]; rw [Int.add_mul]; simp
theorem psum_all {c : Cfg} (h : OkC c) : nodesN c + 2 * c.mr + c.mu + psum c.ch (roomsI c) = packN c := by
  unfold roomsI ksOf
  rw [pre5, many_is ⟨h.a0, h.a1⟩, many_is ⟨h.b0, h.b1⟩, many_is ⟨h.c0, h.c1⟩, many_is ⟨h.d0, h.d1⟩, many_is ⟨h.e0, h.e1⟩]
  simp only [List.map_append, List.map_replicate, psum_app, psum_rep]
  rw [show slotsOf 0 = 1 from rfl, show slotsOf 1 = 2 from rfl, show slotsOf 2 = 4 from rfl, show slotsOf 3 = 8 from rfl, show slotsOf 4 = 16 from rfl]
  rw [Int.toNat_of_nonneg h.a0, Int.toNat_of_nonneg h.b0, Int.toNat_of_nonneg h.c0, Int.toNat_of_nonneg h.d0, Int.toNat_of_nonneg h.e0]
  unfold packN; omega
theorem psum_take (ch : Int) (l : List Int) (k : Nat) (h : k < l.length) : psum ch (l.take (k + 1)) = psum ch (l.take k) + piecesOf (l.getD k 0) ch := by
  rw [take_snocI l k h, psum_app]; simp [psum]
theorem psum_bd (ch : Int) (l : List Int) (h : 1 ≤ ch) (hl : ∀ x ∈ l, 0 ≤ x ∧ x ≤ 16) : 0 ≤ psum ch l ∧ psum ch l ≤ 16 * l.length := by
  induction l with
  | nil => simp [psum]
  | cons x l ih =>
    have i := ih (fun y hy => hl y (by simp [hy]))
    obtain ⟨p0, p1⟩ := hl x (by simp)
    obtain ⟨q0, q1⟩ := pieces_bd x ch p0 h
    have e : psum ch (x :: l) = piecesOf x ch + psum ch l := by simp [psum]
    rw [e]; simp only [List.length_cons]; omega
theorem rooms_bd (c : Cfg) : ∀ x ∈ roomsI c, 0 ≤ x ∧ x ≤ 16 := by
  intro x hx
  simp only [roomsI, List.mem_map] at hx
  obtain ⟨k, _, rfl⟩ := hx
  exact slots_bd k
theorem getD_mem (l : List Int) (k : Nat) (h : k < l.length) : l.getD k 0 ∈ l := by
  rw [List.getD_eq_getElem?_getD, List.getElem?_eq_getElem h]; exact List.getElem_mem h

set_option maxHeartbeats 2000000 in
set_option maxRecDepth 100000 in
theorem rpackets_any {c : Cfg} (h : OkC c) (w : World) : Calls Tryz.prog 36 #[cfgV c] w fun r w' => r = .returned (.int .i64 (packN c)) ∧ Below w.heap.size w w' := by
  have hk0 := KC.start c 38 w w (Below.refl _ _)
  have h60 := ks_len60 c
  have hps := psum_all h
  have hnn := ks_len h
  have hrb := rooms_bd c
  have k0 := h.k0; have k1 := h.k1; have u0 := h.u0; have u1 := h.u1; have c0 := h.h0; have c1 := h.h1
  have HK0 := Lib.hid hk0
  have hl60 : ((roomsI c).length : Int) ≤ 60 := by rw [rooms_len]; omega
  clear h hk0
  go_enter Tryz.func36, Tryz.ntmps36
  go_wp2_with (first
    | (go_at_call 70; (with_reducible refine (rooms_any c _).mono ?_); rintro r w2 ⟨v, rfl, ho⟩; have hkc := HK0.out.step ho.2; obtain ⟨klt, q0, q1, q2, q3, q4, q5, q6, q7, q8, q9, q10, q11, qb⟩ := hkc; obtain ⟨A, cap, rfl, hA, hA0, hcap, hcm⟩ := ho.reads)
    | fail)
  obtain ⟨M, hM⟩ : ∃ M, M = roomsI c := ⟨_, rfl⟩
  have hML : M.length = (ksOf c).length := by rw [hM]; exact rooms_len c
  rw [← hM] at hA hps hrb ⊢
  have hN : (M.length : Int) = nodesN c := by rw [hML]; exact hnn
  have h60' : M.length ≤ 60 := by omega
  have HPS := Lib.hid hps; have HA := Lib.hid hA; have HRB := Lib.hid hrb; have HN := Lib.hid hN
  have HKC := Lib.hid (HK0.out.step ho.2)
  clear hl60 hnn hML hM hA hA0 hcap hcm ho hps hrb HK0 hN h60 q0 q1 q2 q3 q4 q7 q9 q10 q11 qb
  go_wp2_with (fail)
  go_loopw [4, 5] (fun n i wr => ∃ (k : Nat), k ≤ M.length ∧ i = .int .i64 (k : Int) ∧ n = .int .i64 ((M.length : Int) + 2 * c.mr + c.mu + psum c.ch (M.take k)) ∧ Below w2.heap.size w2 wr) (fun _ i _ => M.length - (intOf i).toNat)
  case atStart => exact ⟨0, Nat.zero_le _, rfl, by simp [psum], Below.refl _ _⟩
  case round =>
    obtain ⟨k, hk, rfl, rfl, hb⟩ := hrel
    obtain ⟨s0, s1⟩ := psum_bd c.ch (M.take k) c0 (fun x hx => HRB.out x (List.mem_of_mem_take hx))
    have s2 : (M.take k).length ≤ 60 := by rw [List.length_take]; omega
    by_cases hlt : k < M.length
    · obtain ⟨b, off, rfl, hbl, hcell⟩ := HA.out (by omega)
      have hc1 := (hb.cell (p := ⟨b, off + k, none⟩) hbl).trans (hcell k hlt)
      have hc2 := (HKC.out.step hb).c8
      obtain ⟨x0, x1⟩ := HRB.out _ (getD_mem M k hlt)
      have hst := psum_take c.ch M k hlt
      obtain ⟨X, hX⟩ : ∃ X, X = M.getD k 0 := ⟨_, rfl⟩
      rw [← hX] at hc1 x0 x1 hst
      obtain ⟨p0, p1⟩ := pieces_bd X c.ch x0 c0
      have hq : (X + c.ch - 1).tdiv c.ch = piecesOf X c.ch := by unfold piecesOf; rw [if_neg (by omega), Int.tdiv_eq_ediv_of_nonneg (by omega)]
      have hd : ¬ c.ch = 0 := by omega
      have HS := Lib.hid hst
      have HB := Lib.hid hb
      have hk0 : (0 : Int) ≤ (k : Int) := by omega
      have hk1 : (k : Int) < (M.length : Int) := by omega
      clear hst hb hX hcell hbl
      go_wp2_with (fail)
      go_quiet (fail)
      go_wp2_with (fail)
      go_roundw
      case rel => exact ⟨k + 1, by omega, by go_num, by rw [HS.out]; exact congrArg (Value.int .i64) (by omega), below_drewN HB.out _⟩
      case measure => simp [intOf]; omega
    · have hd : M.take k = M := List.take_of_length_le (by omega)
      have HD := Lib.hid hd
      have HB := Lib.hid hb
      clear hd hb
      go_wp2
      go_ret
      exact ⟨ret_int (by rw [HD.out, HN.out]; exact HPS.out), below_then HKC.out.bel HB.out⟩
end Go.Proofs.YtbpkcoemehmpbaaGreat.Lay

namespace Go.Proofs.YtbpkcoemehmpbaaGreat.Lay
open Go.RowKit
set_option linter.unusedVariables false

/-- What a map is made of. -/
def roomsN (c : Cfg) : List Nat := (ksOf c).map fun k => (slotsOf k).toNat
def shOf (c : Cfg) : Sh := ⟨c.mu.toNat, c.mr.toNat, c.dq.toNat, (packN c).toNat, roomsN c⟩
theorem roomsN_len (c : Cfg) : (roomsN c).length = (ksOf c).length := by simp [roomsN]
theorem roomsN_get (c : Cfg) (k : Nat) (h : k < (ksOf c).length) : (((roomsN c).getD k 0 : Nat) : Int) = slotsOf ((ksOf c).getD k 0) := by
  have := slots_bd ((ksOf c).getD k 0)
  simp only [roomsN, List.getD, List.getElem?_map, List.getElem?_eq_getElem h, Option.map_some, Option.getD_some] at *
  omega

def singlesTo (n : Nat) : List Th := (List.range n).map fun k : Nat => ⟨k, 0, 0⟩
theorem singles_succ (n : Nat) : singlesTo (n + 1) = singlesTo n ++ [⟨(n : Int), 0, 0⟩] := by simp [singlesTo, List.range_succ]
theorem acks_succ (n : Nat) : acks (n + 1) = acks n ++ [⟨6, (n : Int), 0⟩] := by simp [acks, List.range_succ]
theorem heads_succ (n : Nat) : heads (n + 1) = heads n ++ [⟨7, (n : Int), 0⟩] := by simp [heads, List.range_succ]
theorem entries_succ (i n : Nat) : entries i (n + 1) = entries i n ++ [⟨10, (i : Int), (n : Int)⟩] := by simp [entries, List.range_succ]
def tasksI (p : Int) (n : Nat) : List Th := (List.range n).map fun j : Nat => ⟨13, p, j⟩
def slotsI (v : Int) (n : Nat) : List Th := (List.range n).map fun j : Nat => ⟨18, v, j⟩
theorem tasks_succ (p : Int) (n : Nat) : tasksI p (n + 1) = tasksI p n ++ [⟨13, p, (n : Int)⟩] := by simp [tasksI, List.range_succ]
theorem slotsI_succ (v : Int) (n : Nat) : slotsI v (n + 1) = slotsI v n ++ [⟨18, v, (n : Int)⟩] := by simp [slotsI, List.range_succ]
theorem packs_succ (n : Nat) : packsTo (n + 1) = packsTo n ++ ([⟨11, (n : Int) + 1, 0⟩] ++ ([⟨12, (n : Int) + 1, 0⟩] ++ tasksI ((n : Int) + 1) 4)) := by
  simp [packsTo, pack1, tasks, tasksI]
theorem nodes_succ (r : List Nat) (n : Nat) : nodesTo r (n + 1) = nodesTo r n ++ ([⟨14, (n : Int) + 1, 0⟩] ++ ([⟨15, (n : Int) + 1, 0⟩] ++ ([⟨16, (n : Int) + 1, 0⟩] ++ ([⟨17, (n : Int) + 1, 0⟩] ++ slotsI ((n : Int) + 1) (r.getD n 0))))) := by
  simp [nodesTo, node1, slots, slotsI]
theorem marks_succ (D n : Nat) : marksTo D (n + 1) = marksTo D n ++ ([⟨8, (n : Int), 0⟩] ++ ([⟨9, (n : Int), 0⟩] ++ entries n D)) := by
  simp [marksTo, mark1]

theorem off_le (r : List Nat) (h : ∀ x ∈ r, x ≤ 16) : ∀ n, n ≤ r.length → off r n ≤ 20 * n
  | 0, _ => by simp [off]
  | n + 1, hn => by
    have ih := off_le r h n (by omega)
    have : r.getD n 0 ≤ 16 := h _ (by rw [List.getD_eq_getElem?_getD, List.getElem?_eq_getElem (by omega)]; exact List.getElem_mem _)
    simp only [off]; omega
theorem roomsN_le (c : Cfg) : ∀ x ∈ roomsN c, x ≤ 16 := by
  intro x hx
  simp only [roomsN, List.mem_map] at hx
  obtain ⟨k, _, rfl⟩ := hx
  have := slots_bd k; omega

end Go.Proofs.YtbpkcoemehmpbaaGreat.Lay
