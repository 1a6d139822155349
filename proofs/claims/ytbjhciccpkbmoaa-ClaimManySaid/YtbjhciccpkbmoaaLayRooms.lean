/- The document's own count of packets, walked. -/
import Derived.Test.YtbjhciccpkbmoaaLayPack
namespace Go.Proofs.Ytbjhciccpkbmoaa.Lay
open Go.RowKit
set_option linter.unusedVariables false

theorem OwnI.lower {k : IntKind} {e : TypeId} {w w2 wr : World} {v : Value} {l : List Int} (h : OwnI k e w2.heap.size w2 wr v l) (hb : Below w.heap.size w w2) : OwnI k e w.heap.size w wr v l :=
  ⟨h.1.mono hb.size, below_then hb h.2⟩
theorem KC.of {c : Cfg} {t : TypeId} {w wr : World} (h : Below (w.heap.size + 1) (w.alloc (cfgO c t)) wr) : KC w w.heap.size c wr := by
  have k := KC.start c t w w (Below.refl _ _)
  have hl : w.heap.size < w.heap.size + 1 := Nat.lt_succ_self _
  exact ⟨by have := h.size; simp at this; omega, (h.cell (p := ⟨_, 0, none⟩) hl).trans k.c0, (h.cell (p := ⟨_, 1, none⟩) hl).trans k.c1, (h.cell (p := ⟨_, 2, none⟩) hl).trans k.c2, (h.cell (p := ⟨_, 3, none⟩) hl).trans k.c3, (h.cell (p := ⟨_, 4, none⟩) hl).trans k.c4, (h.cell (p := ⟨_, 5, none⟩) hl).trans k.c5,
    (h.cell (p := ⟨_, 6, none⟩) hl).trans k.c6, (h.cell (p := ⟨_, 7, none⟩) hl).trans k.c7, (h.cell (p := ⟨_, 8, none⟩) hl).trans k.c8, (h.cell (p := ⟨_, 9, none⟩) hl).trans k.c9, (h.cell (p := ⟨_, 10, none⟩) hl).trans k.c10, (h.cell (p := ⟨_, 11, none⟩) hl).trans k.c11,
    k.bel.trans (h.mono (Nat.le_succ _))⟩

/-- The classes of all nodes; their rooms. -/
def ksOf (c : Cfg) : List Int := pre c.a c.b c.c c.d c.e 5
def roomsI (c : Cfg) : List Int := (ksOf c).map slotsOf
/-- A slice of numbers that was made. -/
def SomeI (k : IntKind) (e : TypeId) (l : List Int) (w : World) (en : Ending) (w' : World) : Prop := ∃ v, en = .returned v ∧ OwnI k e w.heap.size w w' v l

theorem all_own (c : Cfg) (w : World) : Calls Try.prog 73 #[.agg #[.int .i64 c.a, .int .i64 c.b, .int .i64 c.c, .int .i64 c.d, .int .i64 c.e]] w (SomeI .i64 3 (ksOf c) w) :=
  (all_any _ _ _ _ _ w).mono fun r w' ⟨v, he, ho⟩ => ⟨v, he, ho.1.mono (Nat.le_succ _), (below_alloc0 (Below.refl _ _) _).trans (ho.2.mono (Nat.le_succ _))⟩

theorem ks_len {c : Cfg} (h : OkC c) : ((ksOf c).length : Int) = nodesN c := by
  unfold ksOf; rw [pre_length, many_is ⟨h.a0, h.a1⟩, many_is ⟨h.b0, h.b1⟩, many_is ⟨h.c0, h.c1⟩, many_is ⟨h.d0, h.d1⟩, many_is ⟨h.e0, h.e1⟩]; rfl
theorem ks_len60 (c : Cfg) : (ksOf c).length ≤ 60 := pre_len _ _ _ _ _ 5
theorem rooms_len (c : Cfg) : (roomsI c).length = (ksOf c).length := by simp [roomsI]
theorem rooms_get (c : Cfg) (k : Nat) (h : k < (ksOf c).length) : (roomsI c).getD k 0 = slotsOf ((ksOf c).getD k 0) := by
  simp [roomsI, List.getD, List.getElem?_map, List.getElem?_eq_getElem h]
theorem take_snocI (l : List Int) (k : Nat) (h : k < l.length) : l.take (k + 1) = l.take k ++ [l.getD k 0] := by
  rw [List.take_succ_eq_append_getElem h, List.getD_eq_getElem?_getD, List.getElem?_eq_getElem h]; rfl

set_option maxHeartbeats 2000000 in
set_option maxRecDepth 100000 in
theorem rooms_any (c : Cfg) (w : World) : Calls Try.prog 63 #[cfgV c] w (SomeI .i64 3 (roomsI c) w) := by
  have hk0 := KC.start c 37 w w (Below.refl _ _)
  have h60 := ks_len60 c
  go_enter Try.func63, Try.ntmps63
  go_wp2_with (first
    | (go_at_call 73; (with_reducible refine (all_own c _).mono ?_); rintro r w2 ⟨v, rfl, ho⟩)
    | fail)
  have hb0 : Below w.heap.size w w2 := below_then (below_alloc0 (Below.refl _ _) _) ho.2
  obtain ⟨A, cap, rfl, hA, hA0, hcap, hcm⟩ := ho.reads
  obtain ⟨L, hL⟩ : ∃ L, L = ksOf c := ⟨_, rfl⟩
  obtain ⟨M, hM⟩ : ∃ M, M = roomsI c := ⟨_, rfl⟩
  rw [← hL] at hA h60 ⊢
  have hML : M.length = L.length := by rw [hM, hL]; exact rooms_len c
  have hMg : ∀ k, k < L.length → M.getD k 0 = slotsOf (L.getD k 0) := fun k hk => by rw [hM, hL] at *; exact rooms_get c k hk
  have HM := Lib.hid hM; have HML := Lib.hid hML; have HMG := Lib.hid hMg; have HA := Lib.hid hA; have HB0 := Lib.hid hb0
  clear hk0 ho hA hA0 hcap hcm hL hM hML hMg hb0
  go_wp2_with (fail)
  go_loopw [3, 5] (fun v i wr => ∃ (k : Nat), k ≤ L.length ∧ i = .int .i64 (k : Int) ∧ OwnI .i64 3 w2.heap.size w2 wr v (M.take k)) (fun _ i _ => L.length - (intOf i).toNat)
  case atStart => exact ⟨0, Nat.zero_le _, rfl, OwnI.nil (Below.refl _ _)⟩
  case round =>
    obtain ⟨k, hk, rfl, hO⟩ := hrel
    by_cases hlt : k < L.length
    · obtain ⟨b, off, rfl, hbl, hcell⟩ := HA.out (by omega)
      have hc1 := (hO.2.cell (p := ⟨b, off + k, none⟩) hbl).trans (hcell k hlt)
      have hst := take_snocI M k (by have := HML.out; omega)
      rw [HMG.out k hlt] at hst
      have hlen : (M.take k).length ≤ 1000 := by rw [List.length_take]; omega
      obtain ⟨X, hX⟩ : ∃ X, X = L.getD k 0 := ⟨_, rfl⟩
      rw [← hX] at hc1 hst
      have HS := Lib.hid hst
      have HO := Lib.hid hO
      have HL := Lib.hid hlen
      have hk0 : (0 : Int) ≤ (k : Int) := by omega
      have hk1 : (k : Int) < (L.length : Int) := by omega
      clear hst hO hlen hX hcell hbl
      go_wp2_with (first
        | (go_at_call 74; (with_reducible refine (refSlots_any _ _).mono ?_); rintro r w5 ⟨rfl, rfl⟩)
        | (at_builtin; refine append_int rfl _ _ 65 3 rfl Try.underlying65 info3 _ _ _ _ rfl HO.out rfl ?_ ?_ ?_; (have := HL.out; omega); (exact Nat.le_refl _); intro v' w5 HO5)
        | fail)
      go_roundw
      case rel => exact ⟨k + 1, by omega, by go_num, by rw [HS.out]; exact HO5⟩
      case measure => simp [intOf]; omega
    · have hd : M.take k = M := List.take_of_length_le (by have := HML.out; omega)
      have HD := Lib.hid hd
      have HO := Lib.hid hO
      clear hd hO
      go_wp2
      go_ret
      exact ⟨_, rfl, by rw [← HM.out, ← HD.out]; exact HO.out.lower HB0.out⟩

/-- The pieces of rooms. -/
def psum (ch : Int) (l : List Int) : Int := (l.map fun r => piecesOf r ch).sum
theorem psum_app (ch : Int) (l m : List Int) : psum ch (l ++ m) = psum ch l + psum ch m := by unfold psum; simp
theorem psum_rep (ch : Int) (n : Nat) (k : Int) : psum ch (List.replicate n k) = n * piecesOf k ch := by
  induction n with
  | zero => simp [psum]
  | succ n ih => rw [List.replicate_succ', psum_app, ih]; simp [psum]; rw [Int.add_mul]; simp
theorem psum_all {c : Cfg} (h : OkC c) : nodesN c + 2 * c.mr + c.mu + psum c.ch (roomsI c) = packN c := by
  unfold roomsI ksOf
  rw [pre5, many_is ⟨h.a0, h.a1⟩, many_is ⟨h.b0, h.b1⟩, many_is ⟨h.c0, h.c1⟩, many_is ⟨h.d0, h.d1⟩, many_is ⟨h.e0, h.e1⟩]
  simp only [List.map_append, List.map_replicate, psum_app, psum_rep]
  rw [show slotsOf 0 = 1 from rfl, show slotsOf 1 = 2 from rfl, show slotsOf 2 = 4 from rfl, show slotsOf 3 = 8 from rfl, show slotsOf 4 = 16 from rfl]
  rw [Int.toNat_of_nonneg h.a0, Int.toNat_of_nonneg h.b0, Int.toNat_of_nonneg h.c0, Int.toNat_of_nonneg h.d0, Int.toNat_of_nonneg h.e0]
  unfold packN; omega
theorem psum_take (ch : Int) (l : List Int) (k : Nat) (h : k < l.length) : psum ch (l.take (k + 1)) = psum ch (l.take k) + piecesOf (l.getD k 0) ch := by
  rw [take_snocI l k h, psum_app]; simp [psum]
theorem psum_bd (ch : Int) (l : List Int) (h : 1 ≤ ch) (hl : ∀ x ∈ l, 0 ≤ x ∧ x ≤ 16) : 0 ≤ psum ch l ∧ psum ch l ≤ 16 * l.length := by
  induction l with
  | nil => simp [psum]
  | cons x l ih =>
    have i := ih (fun y hy => hl y (by simp [hy]))
    obtain ⟨p0, p1⟩ := hl x (by simp)
    obtain ⟨q0, q1⟩ := pieces_bd x ch p0 h
    have e : psum ch (x :: l) = piecesOf x ch + psum ch l := by simp [psum]
    rw [e]; simp only [List.length_cons]; omega
theorem rooms_bd (c : Cfg) : ∀ x ∈ roomsI c, 0 ≤ x ∧ x ≤ 16 := by
  intro x hx
  simp only [roomsI, List.mem_map] at hx
  obtain ⟨k, _, rfl⟩ := hx
  exact slots_bd k
theorem getD_mem (l : List Int) (k : Nat) (h : k < l.length) : l.getD k 0 ∈ l := by
  rw [List.getD_eq_getElem?_getD, List.getElem?_eq_getElem h]; exact List.getElem_mem h

set_option maxHeartbeats 2000000 in
set_option maxRecDepth 100000 in
theorem rpackets_any {c : Cfg} (h : OkC c) (w : World) : Calls Try.prog 35 #[cfgV c] w fun r w' => r = .returned (.int .i64 (packN c)) ∧ Below w.heap.size w w' := by
  have hk0 := KC.start c 37 w w (Below.refl _ _)
  have h60 := ks_len60 c
  have hps := psum_all h
  have hnn := ks_len h
  have hrb := rooms_bd c
  have k0 := h.k0; have k1 := h.k1; have u0 := h.u0; have u1 := h.u1; have c0 := h.h0; have c1 := h.h1
  have HK0 := Lib.hid hk0
  have hl60 : ((roomsI c).length : Int) ≤ 60 := by rw [rooms_len]; omega
  clear h hk0
  go_enter Try.func35, Try.ntmps35
  go_wp2_with (first
    | (go_at_call 63; (with_reducible refine (rooms_any c _).mono ?_); rintro r w2 ⟨v, rfl, ho⟩; have hkc := HK0.out.step ho.2; obtain ⟨klt, q0, q1, q2, q3, q4, q5, q6, q7, q8, q9, q10, q11, qb⟩ := hkc; obtain ⟨A, cap, rfl, hA, hA0, hcap, hcm⟩ := ho.reads)
    | fail)
  obtain ⟨M, hM⟩ : ∃ M, M = roomsI c := ⟨_, rfl⟩
  have hML : M.length = (ksOf c).length := by rw [hM]; exact rooms_len c
  rw [← hM] at hA hps hrb ⊢
  have hN : (M.length : Int) = nodesN c := by rw [hML]; exact hnn
  have h60' : M.length ≤ 60 := by omega
  have HPS := Lib.hid hps; have HA := Lib.hid hA; have HRB := Lib.hid hrb; have HN := Lib.hid hN
  have HKC := Lib.hid (HK0.out.step ho.2)
  clear hl60 hnn hML hM hA hA0 hcap hcm ho hps hrb HK0 hN h60 q0 q1 q2 q3 q4 q7 q9 q10 q11 qb
  go_wp2_with (fail)
  go_loopw [4, 5] (fun n i wr => ∃ (k : Nat), k ≤ M.length ∧ i = .int .i64 (k : Int) ∧ n = .int .i64 ((M.length : Int) + 2 * c.mr + c.mu + psum c.ch (M.take k)) ∧ Below w2.heap.size w2 wr) (fun _ i _ => M.length - (intOf i).toNat)
  case atStart => exact ⟨0, Nat.zero_le _, rfl, by simp [psum], Below.refl _ _⟩
  case round =>
    obtain ⟨k, hk, rfl, rfl, hb⟩ := hrel
    obtain ⟨s0, s1⟩ := psum_bd c.ch (M.take k) c0 (fun x hx => HRB.out x (List.mem_of_mem_take hx))
    have s2 : (M.take k).length ≤ 60 := by rw [List.length_take]; omega
    by_cases hlt : k < M.length
    · obtain ⟨b, off, rfl, hbl, hcell⟩ := HA.out (by omega)
      have hc1 := (hb.cell (p := ⟨b, off + k, none⟩) hbl).trans (hcell k hlt)
      have hc2 := (HKC.out.step hb).c8
      obtain ⟨x0, x1⟩ := HRB.out _ (getD_mem M k hlt)
      have hst := psum_take c.ch M k hlt
      obtain ⟨X, hX⟩ : ∃ X, X = M.getD k 0 := ⟨_, rfl⟩
      rw [← hX] at hc1 x0 x1 hst
      obtain ⟨p0, p1⟩ := pieces_bd X c.ch x0 c0
      have hq : (X + c.ch - 1).tdiv c.ch = piecesOf X c.ch := by unfold piecesOf; rw [if_neg (by omega), Int.tdiv_eq_ediv_of_nonneg (by omega)]
      have hd : ¬ c.ch = 0 := by omega
      have HS := Lib.hid hst
      have HB := Lib.hid hb
      have hk0 : (0 : Int) ≤ (k : Int) := by omega
      have hk1 : (k : Int) < (M.length : Int) := by omega
      clear hst hb hX hcell hbl
      go_wp2_with (fail)
      go_quiet (fail)
      go_wp2_with (fail)
      go_roundw
      case rel => exact ⟨k + 1, by omega, by go_num, by rw [HS.out]; exact congrArg (Value.int .i64) (by omega), below_drewN HB.out _⟩
      case measure => simp [intOf]; omega
    · have hd : M.take k = M := List.take_of_length_le (by omega)
      have HD := Lib.hid hd
      have HB := Lib.hid hb
      clear hd hb
      go_wp2
      go_ret
      exact ⟨ret_int (by rw [HD.out, HN.out]; exact HPS.out), below_then HKC.out.bel HB.out⟩
end Go.Proofs.Ytbjhciccpkbmoaa.Lay
