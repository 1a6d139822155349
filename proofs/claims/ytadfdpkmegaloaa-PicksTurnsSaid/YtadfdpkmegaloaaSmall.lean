/- One pick: nobody, a pick among all, what two bytes tell, a pick's first byte, a rest: walked. -/
import Derived.Test.YtadfdpkmegaloaaBase
namespace Go.Proofs.Ytadfdpkmegaloaa
open Go.RowKit
set_option linter.unusedVariables false

theorem bcell {W w1 : World} (hb : Below W.heap.size W w1) : (∀ b o, b < W.heap.size → w1.cell? ⟨b, o, none⟩ = W.cell? ⟨b, o, none⟩) ∧ (∀ b o, b < W.heap.size → w1.frozen? ⟨b, o, none⟩ = W.frozen? ⟨b, o, none⟩) :=
  ⟨fun b o h => hb.cell (p := ⟨b, o, none⟩) h, fun b o h => hb.frozen (p := ⟨b, o, none⟩) h⟩

def pkv (p : Pk) : Value := .agg #[.int .i64 p.1, .int .i64 p.2]

set_option maxHeartbeats 400000 in
theorem nobody_any (d : Int) (w : World) : Calls Try.prog 25 #[.int .i64 d] w fun e w' => e = .returned (.agg #[.int .i64 (-1), .int .i64 d]) ∧ Below w.heap.size w w' := by
  go_enter Try.func25, Try.ntmps25
  go_wp2
  exact bodyPost_ret (v := .agg #[.int .i64 (-1), .int .i64 d]) (by simp [results, Try.results25, go_sem]) rfl ⟨rfl, by go_grown⟩

set_option maxHeartbeats 400000 in
theorem among_any (x d all : Int) (w : World) : Calls Try.prog 24 #[.agg #[.int .i64 x, .int .i64 d], .int .i64 all] w fun e w' => e = .returned (.agg #[.int .i64 (amongP (x, d) all).1, .int .i64 (amongP (x, d) all).2]) ∧ Below w.heap.size w w' := by
  by_cases h : x < 0 ∨ all ≤ x
  · have e : amongP (x, d) all = (-1, d) := by unfold amongP; rw [if_pos h]
    rw [e]
    clear e
    by_cases h1 : x < 0
    · clear h
      go_enter Try.func24, Try.ntmps24
      go_wp2_with (go_at_call 25; (with_reducible refine (nobody_any _ _).mono ?_); rintro e w1 ⟨rfl, hb⟩; obtain ⟨hc, hf⟩ := bcell hb)
      exact bodyPost_ret (v := .agg #[.int .i64 (-1), .int .i64 d]) (by simp [results, Try.results24, go_sem, hc]) rfl ⟨rfl, ((((((Below.refl _ _).alloc (Nat.le_refl _) _).alloc (by simp) _).trans (hb.mono (by simp; omega))).setCell (by simp) _).setCell (by simp) _)⟩
    · have h2 : all ≤ x := by omega
      clear h
      go_enter Try.func24, Try.ntmps24
      go_wp2_with (go_at_call 25; (with_reducible refine (nobody_any _ _).mono ?_); rintro e w1 ⟨rfl, hb⟩; obtain ⟨hc, hf⟩ := bcell hb)
      exact bodyPost_ret (v := .agg #[.int .i64 (-1), .int .i64 d]) (by simp [results, Try.results24, go_sem, hc]) rfl ⟨rfl, ((((((Below.refl _ _).alloc (Nat.le_refl _) _).alloc (by simp) _).trans (hb.mono (by simp; omega))).setCell (by simp) _).setCell (by simp) _)⟩
  · have e : amongP (x, d) all = (x, d) := by unfold amongP; rw [if_neg h]
    rw [e]
    have h1 : 0 ≤ x := by omega
    have h2 : x < all := by omega
    clear h e
    go_enter Try.func24, Try.ntmps24
    go_wp2
    exact bodyPost_ret (v := .agg #[.int .i64 x, .int .i64 d]) (by simp [results, Try.results24, go_sem]) rfl ⟨rfl, by go_grown⟩

theorem among_no (x d all : Int) (h : x < 0 ∨ all ≤ x) (w : World) : Calls Try.prog 24 #[.agg #[.int .i64 x, .int .i64 d], .int .i64 all] w fun e w' => e = .returned (.agg #[.int .i64 (-1), .int .i64 d]) ∧ Below w.heap.size w w' := by
  have := among_any x d all w
  have e : amongP (x, d) all = (-1, d) := by unfold amongP; rw [if_pos h]
  rw [e] at this
  exact this
theorem among_yes (x d all : Int) (h : 0 ≤ x) (h2 : x < all) (w : World) : Calls Try.prog 24 #[.agg #[.int .i64 x, .int .i64 d], .int .i64 all] w fun e w' => e = .returned (.agg #[.int .i64 x, .int .i64 d]) ∧ Below w.heap.size w w' := by
  have := among_any x d all w
  have e : amongP (x, d) all = (x, d) := by unfold amongP; rw [if_neg (by simp; omega)]
  rw [e] at this
  exact this

/-- What two bytes tell: the closure of Decode. -/
theorem told_any (x y all : Int) (N : Nat) (w : World) (hN : N < w.heap.size) (c : w.cell? ⟨N, 0, none⟩ = some (.int .i64 all)) (x0 : 0 ≤ x) (x1 : x ≤ 255) (y0 : 0 ≤ y) (y1 : y ≤ 255) :
    Calls Try.prog 23 #[.int .u8 x, .int .u8 y, .pointer (some ⟨N, 0, none⟩)] w fun e w' => e = .returned (.agg #[.int .i64 (amongP (x, y) all).1, .int .i64 (amongP (x, y) all).2]) ∧ Below w.heap.size w w' := by
  obtain ⟨p, hp⟩ : ∃ p, p = amongP (x, y) all := ⟨_, rfl⟩
  have HC := among_any x y all
  rw [← hp] at HC ⊢
  clear hp
  obtain ⟨p1, p2⟩ := p
  go_enter Try.func23, Try.ntmps23
  go_wp2_with (go_at_call 24; (with_reducible refine (HC _).mono ?_); rintro e w1 ⟨rfl, hb⟩; obtain ⟨hc, hf⟩ := bcell hb)
  exact bodyPost_ret (v := .agg #[.int .i64 p1, .int .i64 p2]) (by simp [results, Try.results23, go_sem, hc]) rfl ⟨rfl, (((((Below.refl _ _).alloc (Nat.le_refl _) _).trans (hb.mono (by simp))).setCell (by simp) _).setCell (by simp) _)⟩

/-- The box of a pick that came in by value, and what came behind it. -/
structure Bx (w : World) (x d : Int) (w' : World) : Prop where
  bel : Below (w.heap.size + 1) (w.alloc (.cells #[.int .i64 x, .int .i64 d] 36)) w'
theorem Bx.start (w : World) (x d : Int) : Bx w x d (w.alloc (.cells #[.int .i64 x, .int .i64 d] 36)) := ⟨Below.refl _ _⟩
theorem Bx.drew {w w' : World} {x d : Int} (h : Bx w x d w') : Bx w x d w'.drew := ⟨h.bel.drew⟩
theorem Bx.step {w w' w2 : World} {x d : Int} (h : Bx w x d w') (hb : Below w'.heap.size w' w2) : Bx w x d w2 := ⟨below_step h.bel (by have := h.bel.size; simpa using this) hb⟩
theorem Bx.cells {w w' : World} {x d : Int} (h : Bx w x d w') : w'.cell? ⟨w.heap.size, 0, none⟩ = some (.int .i64 x) ∧ w'.cell? ⟨w.heap.size, 1, none⟩ = some (.int .i64 d) ∧ Bx w x d w' := by
  refine ⟨?_, ?_, h⟩
  · rw [h.bel.cell (p := ⟨w.heap.size, 0, none⟩) (Nat.lt_succ_self _), World.cell?_alloc_at _ _ _ _ rfl]; rfl
  · rw [h.bel.cell (p := ⟨w.heap.size, 1, none⟩) (Nat.lt_succ_self _), World.cell?_alloc_at _ _ _ _ rfl]; rfl
theorem Bx.more {X Y : Prop} {w w' w2 : World} {x d : Int} (h : X ∧ Y ∧ Bx w x d w') (hb : Below w'.heap.size w' w2) : Bx w x d w2 := h.2.2.step hb
theorem Bx.fin {X Y : Prop} {w w' : World} {x d : Int} (h : X ∧ Y ∧ Bx w x d w') : Below w.heap.size w w' := ((Below.refl _ _).alloc (Nat.le_refl _) _).trans (h.2.2.bel.mono (Nat.le_succ _))

set_option maxHeartbeats 1000000 in
theorem whosByte_any (x d : Int) (w : World) : Calls Try.prog 26 #[.agg #[.int .i64 x, .int .i64 d]] w fun e w' => e = .returned (.int .u8 (whoB x)) ∧ Below w.heap.size w w' := by
  have hB := Bx.start w x d
  obtain ⟨q0, q1, _⟩ := hB.cells
  by_cases h : x < 0 ∨ 254 < x
  · have e : whoB x = 255 := by unfold whoB; rw [if_pos h]
    rw [e]
    have HH : Hid (x < 0 ∨ 255 ≤ x) := Lib.hid (by omega)
    clear h e
    go_enter Try.func26, Try.ntmps26
    go_wp2_with (fail)
    go_region_held3 (fun w' => w'.cell? ⟨w.heap.size, 0, none⟩ = some (.int .i64 x) ∧ w'.cell? ⟨w.heap.size, 1, none⟩ = some (.int .i64 d) ∧ Bx w x d w')
      (first | exact Bx.cells (by assumption) | exact Bx.cells (Bx.drew (by assumption)) | go_keep)
      (first
        | (go_at_call 24; (with_reducible refine (among_no _ _ _ HH.out _).mono ?_); rintro e w1 ⟨rfl, hb⟩; have hkk := Bx.more (by assumption) hb)
        | (go_at_call 25; (with_reducible refine (nobody_any _ _).mono ?_); rintro e w1 ⟨rfl, hb⟩; have hkk := Bx.more (by assumption) hb))
    all_goals (go_wp2_with (fail))
    all_goals go_ret
    all_goals exact ⟨rfl, Bx.fin (by assumption)⟩
  · have e : whoB x = x := by unfold whoB; rw [if_neg h]
    rw [e]
    have h0 : 0 ≤ x := by omega
    have h1 : x < 255 := by omega
    have HE : ¬ x = -1 := by omega
    clear h e
    go_enter Try.func26, Try.ntmps26
    go_wp2_with (fail)
    go_region_held3 (fun w' => w'.cell? ⟨w.heap.size, 0, none⟩ = some (.int .i64 x) ∧ w'.cell? ⟨w.heap.size, 1, none⟩ = some (.int .i64 d) ∧ Bx w x d w')
      (first | exact Bx.cells (by assumption) | exact Bx.cells (Bx.drew (by assumption)) | go_keep)
      (first
        | (go_at_call 24; (with_reducible refine (among_yes _ _ _ h0 h1 _).mono ?_); rintro e w1 ⟨rfl, hb⟩; have hkk := Bx.more (by assumption) hb)
        | (go_at_call 25; (with_reducible refine (nobody_any _ _).mono ?_); rintro e w1 ⟨rfl, hb⟩; have hkk := Bx.more (by assumption) hb))
    all_goals (go_wp2_with (fail))
    all_goals go_ret
    all_goals exact ⟨rfl, Bx.fin (by assumption)⟩

theorem tmod_bd (n all : Int) (h : 1 ≤ all) : -all < n.tmod all ∧ n.tmod all < all ∧ (n.tmod all + all) % all = n % all := by
  have key : ∀ m : Int, 0 ≤ m → m.tmod all = m % all := fun m hm => Int.tmod_eq_emod_of_nonneg hm
  by_cases h0 : 0 ≤ n
  · rw [key n h0, Int.add_emod_right, Int.emod_emod]
    have h1 := Int.emod_nonneg n (show all ≠ 0 by omega)
    have h2 := Int.emod_lt_of_pos n (show 0 < all by omega)
    omega
  · have e : n.tmod all = -((-n) % all) := by rw [← key (-n) (by omega), Int.neg_tmod, Int.neg_neg]
    have h1 := Int.emod_nonneg (-n) (show all ≠ 0 by omega)
    have h2 := Int.emod_lt_of_pos (-n) (show 0 < all by omega)
    refine ⟨by omega, by omega, ?_⟩
    rw [Int.add_emod_right, Int.tmod_def, Int.sub_mul_emod_self_left]

set_option maxHeartbeats 400000 in
theorem rest_any (n all : Int) (w : World) (h1 : 1 ≤ all) (h2 : all ≤ 10000) (h3 : -9223372036854775808 ≤ n) (h4 : n ≤ 9223372036854775807) : Calls Try.prog 27 #[.int .i64 n, .int .i64 all] w fun e w' => e = .returned (.int .i64 (n % all)) ∧ w = w' := by
  have e0 : (all == 0) = false := by rw [beq_eq_false_iff_ne]; omega
  obtain ⟨hb1, hb2, hm⟩ := tmod_bd n all h1
  obtain ⟨q, hq⟩ : ∃ q, q = n % all := ⟨_, rfl⟩
  rw [← hq] at hm ⊢
  have HM := Lib.hid hm
  clear hq hm
  go_enter Try.func27, Try.ntmps27
  go_wp2
  go_ret
  exact ⟨ret_int HM.out, rfl⟩
end Go.Proofs.Ytadfdpkmegaloaa
