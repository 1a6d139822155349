/- The call of the law of two accesses in either order. -/
import Derived.Test.YtenjjlopofkkgaaTwo
import Derived.Test.YtenjjlopofkkgaaDoes
import Derived.Test.YtenjjlopofkkgaaApartLaw
namespace Go.Proofs.Ytenjjlopofkkgaa
open Go.RowKit
set_option linter.unusedVariables false

abbrev boxO (x : Ac) : Obj := .cells #[.int .u8 x.d, .int .i64 x.p, .int .u64 x.o, .int .u64 x.v] 29
/-- An access that lies in a block. -/
def Boxed (w : World) (k : Nat) (x : Ac) : Prop :=
  w.cell? ⟨k, 0, none⟩ = some (.int .u8 x.d) ∧ w.cell? ⟨k, 1, none⟩ = some (.int .i64 x.p) ∧ w.cell? ⟨k, 2, none⟩ = some (.int .u64 x.o) ∧ w.cell? ⟨k, 3, none⟩ = some (.int .u64 x.v)
theorem boxed_new (w : World) (x : Ac) : Boxed (w.alloc (boxO x)) w.heap.size x := by
  refine ⟨?_, ?_, ?_, ?_⟩ <;> (rw [World.cell?_alloc_at _ _ _ _ rfl]; rfl)
theorem Boxed.below {w w' : World} {k B : Nat} {x : Ac} (h : Boxed w k x) (hb : Below B w w') (hk : k < B) : Boxed w' k x :=
  ⟨(hb.cell (p := ⟨k, 0, none⟩) hk).trans h.1, (hb.cell (p := ⟨k, 1, none⟩) hk).trans h.2.1, (hb.cell (p := ⟨k, 2, none⟩) hk).trans h.2.2.1, (hb.cell (p := ⟨k, 3, none⟩) hk).trans h.2.2.2⟩

/-- The world in which both accesses lie boxed, and all that came in stands. -/
structure Begun (w w0 : World) (x y : Ac) (A : Option Addr) (L : List Int) : Prop where
  bel : Below w.heap.size w w0
  size : w0.heap.size = w.heap.size + 2
  b1 : Boxed w0 w.heap.size x
  b2 : Boxed w0 (w.heap.size + 1) y
  reads : Reads .u64 w0 A L
theorem Begun.mk' {w : World} (x y : Ac) {A : Option Addr} {L : List Int} (h : Reads .u64 w A L) : Begun w ((w.alloc (boxO x)).alloc (boxO y)) x y A L := by
  refine ⟨below_alloc0 (below_alloc0 (Below.refl _ _) _) _, by simp, (boxed_new w x).below (below_alloc0 (Below.refl _ _) _) (by simp), ?_, h.below (below_alloc0 (below_alloc0 (Below.refl _ _) _) _) (Nat.le_refl _)⟩
  have := boxed_new (w.alloc (boxO x)) y
  simpa using this
/-- What is known later on. -/
def Later (w w0 wr : World) (x y : Ac) (A : Option Addr) (L : List Int) : Prop :=
  Boxed wr w.heap.size x ∧ Boxed wr (w.heap.size + 1) y ∧ Reads .u64 wr A L
theorem Later.reads {w w0 wr : World} {x y : Ac} {A : Option Addr} {L : List Int} (h : Later w w0 wr x y A L) : Reads .u64 wr A L := h.2.2
theorem Begun.later {w w0 wr : World} {x y : Ac} {A : Option Addr} {L : List Int} (h : Begun w w0 x y A L) (hb : Below w0.heap.size w0 wr) : Later w w0 wr x y A L :=
  ⟨h.b1.below hb (by rw [h.size]; omega), h.b2.below hb (by rw [h.size]; omega), h.reads.below hb (Nat.le_refl _)⟩

set_option maxHeartbeats 8000000 in
set_option maxRecDepth 100000 in
theorem walkTurned (A : Option Addr) (n cap : Nat) (zs : List Int) (x y : Ac) (w : World) (hz : IsRow .u64 w A n cap zs) :
    Calls Try.prog 8 #[.slice A n cap, acV x, acV y] w fun e w' => e = .returned (.bool true) ∧ Below w.heap.size w w' := by
  obtain ⟨hr, hrl, _, _, _, _⟩ := reads_row hz
  clear hz
  obtain ⟨L, hL⟩ : ∃ L, L = zs.take n := ⟨_, rfl⟩
  rw [← hL] at hr hrl
  have hbg := Begun.mk' x y hr
  have HBG := Lib.hid hbg
  have HN := Lib.hid hrl.symm
  obtain ⟨W0, hW0⟩ : ∃ W0, W0 = (w.alloc (boxO x)).alloc (boxO y) := ⟨_, rfl⟩
  have HW0 := Lib.hid hW0
  rw [← hW0] at HBG
  clear hL hr hbg hW0
  by_cases h60 : 60 < n
  · have h60' : (60 : Int) < (n : Int) := by omega
    clear hrl
    go_enter Try.func8, Try.ntmps8
    go_wp2_with (first
      | (go_at_call 9; (with_reducible refine (awake_any _).mono ?_); rintro r w1 ⟨rfl, hb⟩; rw [← HW0.out] at hb; have HB := Lib.hid hb; clear hb)
      | fail)
    go_ret
    exact ⟨rfl, below_then HBG.out.bel HB.out⟩
  obtain ⟨xd, xp, xo, xv⟩ := x
  obtain ⟨yd, yp, yo, yv⟩ := y
  have h60' : ¬ (60 : Int) < (n : Int) := by omega
  by_cases hpp : xp = yp
  · subst hpp
    clear hrl
    go_enter Try.func8, Try.ntmps8
    go_wp2_with (first
      | (go_at_call 9; (with_reducible refine (awake_any _).mono ?_); rintro r w1 ⟨rfl, hb⟩; rw [← HW0.out] at hb; have HB := Lib.hid hb; obtain ⟨⟨q0, q1, q2, q3⟩, ⟨p0, p1, p2, p3⟩, -⟩ := HBG.out.later hb; clear hb)
      | fail)
    go_ret
    exact ⟨rfl, below_then HBG.out.bel HB.out⟩
  have hpf : (xp == yp) = false := by simpa using hpp
  obtain ⟨P, hP⟩ : ∃ P, P = dov L ⟨xd, xp, xo, xv⟩ := ⟨_, rfl⟩
  obtain ⟨Q, hQ⟩ : ∃ Q, Q = dov L ⟨yd, yp, yo, yv⟩ := ⟨_, rfl⟩
  obtain ⟨L1, hL1⟩ : ∃ L1, L1 = doL L ⟨xd, xp, xo, xv⟩ := ⟨_, rfl⟩
  obtain ⟨L2, hL2⟩ : ∃ L2, L2 = doL L ⟨yd, yp, yo, yv⟩ := ⟨_, rfl⟩
  obtain ⟨M, hM⟩ : ∃ M, M = doL L1 ⟨yd, yp, yo, yv⟩ := ⟨_, rfl⟩
  have HM1 : Hid (doL L2 ⟨xd, xp, xo, xv⟩ = M) := Lib.hid (by rw [hM, hL1, hL2]; exact doL_turn L ⟨yd, yp, yo, yv⟩ ⟨xd, xp, xo, xv⟩ (Ne.symm hpp))
  have HP1 : Hid (dov L2 ⟨xd, xp, xo, xv⟩ = P) := Lib.hid (by rw [hL2, hP]; exact dov_turn L ⟨yd, yp, yo, yv⟩ ⟨xd, xp, xo, xv⟩ (Ne.symm hpp))
  have HQ1 : Hid (dov L1 ⟨yd, yp, yo, yv⟩ = Q) := Lib.hid (by rw [hL1, hQ]; exact dov_turn L ⟨xd, xp, xo, xv⟩ ⟨yd, yp, yo, yv⟩ hpp)
  have HML : Hid (n = M.length) := Lib.hid (by rw [hM, doL_len, hL1, doL_len]; exact HN.out)
  have HP := Lib.hid hP.symm; have HQ := Lib.hid hQ.symm; have HL1 := Lib.hid hL1.symm; have HL2 := Lib.hid hL2.symm; have HM := Lib.hid hM.symm
  have hn2 : n ≤ 1000000 := by omega
  clear hP hQ hL1 hL2 hM hpp hrl h60
  go_enter Try.func8, Try.ntmps8
  go_wp2_with (first
    | (go_at_call 9; (with_reducible refine (awake_any _).mono ?_); rintro r w1 ⟨rfl, hb⟩; rw [← HW0.out] at hb; have HB := Lib.hid hb; obtain ⟨⟨q0, q1, q2, q3⟩, ⟨p0, p1, p2, p3⟩, -⟩ := HBG.out.later hb; clear hb)
    | (go_at_call 10; (with_reducible refine (new_any A n cap L _ HN.out (HBG.out.later HB.out).reads hn2).mono ?_); rintro r w2 ⟨S, D, rfl, hS, hD, hs, hb⟩; have HK : Hid (Own W0.heap.size S D W0 w2 L 0) := Lib.hid (Own.of_new HB.out (Nat.le_refl _) hS hD hs hb); clear hs hb hS hD HB q0 q1 q2 q3 p0 p1 p2 p3; obtain ⟨⟨q0, q1, q2, q3⟩, ⟨p0, p1, p2, p3⟩, -⟩ := HBG.out.later HK.out.bel)
    | (go_at_call 10; (with_reducible refine (new_any A n cap L _ HN.out (HBG.out.later HK.out.bel).reads hn2).mono ?_); rintro r w3 ⟨E, F, rfl, hS, hD, hs, hb⟩; have HT : Hid (Two W0.heap.size S D E F W0 w3 L 0 L 0) := Lib.hid (Two.of_new HK.out hS hD hs hb); clear hs hb hS hD HK q0 q1 q2 q3 p0 p1 p2 p3; obtain ⟨⟨q0, q1, q2, q3⟩, ⟨p0, p1, p2, p3⟩, -⟩ := HBG.out.later HT.out.bel)
    | (go_at_call 24; (with_reducible refine (does_any (S := S) (D := D) (L := L) (c := 0) ⟨xd, xp, xo, xv⟩ _ HT.out.st1 (by decide) (by decide)).mono ?_); rintro r w4 ⟨rfl, hk⟩; rw [HP.out]; rw [HL1.out] at hk; have HT := Lib.hid (HT.out.left1 hk); clear hk q0 q1 q2 q3 p0 p1 p2 p3; obtain ⟨⟨q0, q1, q2, q3⟩, ⟨p0, p1, p2, p3⟩, -⟩ := HBG.out.later HT.out.bel)
    | (go_at_call 24; (with_reducible refine (does_any (S := S) (D := D) (L := L1) (c := 0 + 1) ⟨yd, yp, yo, yv⟩ _ HT.out.st1 (by decide) (by decide)).mono ?_); rintro r w5 ⟨rfl, hk⟩; rw [HQ1.out]; rw [HM.out] at hk; have HT := Lib.hid (HT.out.left1 hk); clear hk q0 q1 q2 q3 p0 p1 p2 p3; obtain ⟨⟨q0, q1, q2, q3⟩, ⟨p0, p1, p2, p3⟩, -⟩ := HBG.out.later HT.out.bel)
    | (go_at_call 24; (with_reducible refine (does_any (S := E) (D := F) (L := L) (c := 0) ⟨yd, yp, yo, yv⟩ _ HT.out.st2 (by decide) (by decide)).mono ?_); rintro r w6 ⟨rfl, hk⟩; rw [HQ.out]; rw [HL2.out] at hk; have HT := Lib.hid (HT.out.left2 hk); clear hk q0 q1 q2 q3 p0 p1 p2 p3; obtain ⟨⟨q0, q1, q2, q3⟩, ⟨p0, p1, p2, p3⟩, -⟩ := HBG.out.later HT.out.bel)
    | (go_at_call 24; (with_reducible refine (does_any (S := E) (D := F) (L := L2) (c := 0 + 1) ⟨xd, xp, xo, xv⟩ _ HT.out.st2 (by decide) (by decide)).mono ?_); rintro r w7 ⟨rfl, hk⟩; rw [HP1.out]; rw [HM1.out] at hk; have HT := Lib.hid (HT.out.left2 hk); clear hk q0 q1 q2 q3 p0 p1 p2 p3)
    | (go_at_call 20; (with_reducible refine (all_some (S := S) (L := M) n _ HT.out.st1 HML.out hn2).mono ?_); rintro r w8 ⟨X, rfl, hX, hrow, hb⟩; have HX := Lib.hid hrow; have HT := Lib.hid (HT.out.step hb); clear hX hrow hb)
    | (go_at_call 20; (with_reducible refine (all_some (S := E) (L := M) n _ HT.out.st2 HML.out hn2).mono ?_); rintro r w9 ⟨Y, rfl, hY, hrow, hb⟩; have HY := Lib.hid hrow; have HX := Lib.hid (HX.out.below hb); have HT := Lib.hid (HT.out.step hb); clear hY hrow hb)
    | (go_at_call 19; (with_reducible refine (same_yes (some ⟨X, 0, none⟩) (some ⟨Y, 0, none⟩) n n n n M _ HML.out HML.out HX.out.reads HY.out.reads hn2).mono ?_); rintro r w10 ⟨rfl, hb⟩; have HT := Lib.hid (HT.out.step hb); clear hb)
    | fail)
  go_ret
  exact ⟨rfl, below_then HBG.out.bel HT.out.bel⟩
end Go.Proofs.Ytenjjlopofkkgaa
