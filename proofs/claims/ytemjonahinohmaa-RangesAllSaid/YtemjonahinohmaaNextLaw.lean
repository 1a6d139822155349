/- The law of the piece that begins at any slot, and that of sums and chunks: walked. -/
import Derived.Test.YtemjonahinohmaaAwake
namespace Go.Proofs.Ytemjonahinohmaa
open Go.RowKit
set_option linter.unusedVariables false

theorem wf64 {a : Int} (h : (Lit.int .i64 a).wf = true) : -9223372036854775808 ≤ a ∧ a ≤ 9223372036854775807 := by
  simp [Lit.wf, IntKind.min, IntKind.max, IntKind.bits, IntKind.signed] at h
  omega
theorem wfu {a : Int} (h : (Lit.int .u8 a).wf = true) : 0 ≤ a ∧ a ≤ 255 := by
  simp [Lit.wf, IntKind.min, IntKind.max, IntKind.bits, IntKind.signed] at h
  omega

set_option maxHeartbeats 2000000 in
set_option maxRecDepth 100000 in
theorem walkNext (a0 a1 a2 : Int) (w : World) (w0 : (Lit.int .i64 a0).wf = true) (w1 : (Lit.int .i64 a1).wf = true) (w2 : (Lit.int .i64 a2).wf = true) :
    Calls Try.prog 3 #[.int .i64 a0, .int .i64 a1, .int .i64 a2] w fun e w' => e = .returned (.bool true) ∧ Below w.heap.size w w' := by
  clear w0 w1 w2
  obtain ⟨S, hS⟩ : ∃ S, bnd a0 0 1000 = S := ⟨_, rfl⟩
  obtain ⟨C, hC⟩ : ∃ C, bnd a2 1 1000 = C := ⟨_, rfl⟩
  obtain ⟨F, hF⟩ : ∃ F, bnd a1 0 S = F := ⟨_, rfl⟩
  obtain ⟨T, hT⟩ : ∃ T, imin (F + C) S = T := ⟨_, rfl⟩
  obtain ⟨b, hb⟩ : ∃ b, decide (T < S) = b := ⟨_, rfl⟩
  have hx : Nx a0 a1 a2 S C F T := ⟨hS, hC, hF, hT⟩
  have e1 : imin (imax a0 0) 1000 = S := (bnd_is (by omega)).trans hS
  have e2 : imin (imax a1 0) S = F := (bnd_is (by have := hx.bd; omega)).trans hF
  have HX := Lib.hid hx
  have HB := Below.refl w.heap.size w
  clear hS hC hF hT hx
  go_enter Try.func3, Try.ntmps3
  go_wp2_with (first
    | (go_at_call 8; (with_reducible refine (awake_true _).mono ?_); rintro e w1 ⟨rfl, hb1⟩; have HB := below_then HB hb1; clear hb1)
    | (go_at_call 9; (with_reducible refine (next_any _ _ _ _ _ _ _ _ HX.out hb _).mono ?_); rintro e w2 ⟨rfl, hb1⟩; have HB := below_then HB hb1; clear hb1)
    | (go_at_call 10; (with_reducible refine (refTo_any _ _ _ _ _ _ _ HX.out _).mono ?_); rintro e w3 ⟨rfl, rfl⟩)
    | fail)
  go_ret
  exact ⟨rfl, below_alloc0 HB _⟩

theorem cntW_one {n : Int} (h : 0 ≤ n) (h2 : n ≤ 255) : cntW n 1 = imax n 1 := by
  unfold cntW imax
  rw [bnd_in h (by omega), bnd_in (by omega) (by omega), cnt_one h]
  split <;> split <;> omega
theorem bnd_mono {x y lo hi : Int} (h : x ≤ y) (h2 : lo ≤ hi) : bnd x lo hi ≤ bnd y lo hi := by
  unfold bnd
  (repeat' split) <;> omega
theorem cntW_chunk {n x y : Int} (h : x ≤ y) : cntW n y ≤ cntW n x :=
  cnt_chunk (bnd_lo (by omega)) (bnd_lo (by omega)) (bnd_mono h (by omega))
theorem cntW_slots {n m x : Int} (h : n ≤ m) : cntW n x ≤ cntW m x :=
  cnt_slots (bnd_lo (by omega)) (bnd_mono h (by omega)) (bnd_lo (by omega))

set_option maxHeartbeats 2000000 in
set_option maxRecDepth 100000 in
theorem walkJoin (a0 a1 a2 a3 : Int) (w : World) (w0 : (Lit.int .u8 a0).wf = true) (w1 : (Lit.int .u8 a1).wf = true) (w2 : (Lit.int .u8 a2).wf = true) (w3 : (Lit.int .u8 a3).wf = true) :
    Calls Try.prog 7 #[.int .u8 a0, .int .u8 a1, .int .u8 a2, .int .u8 a3] w fun e w' => e = .returned (.bool true) ∧ Below w.heap.size w w' := by
  obtain ⟨p0, p1⟩ := wfu w0
  obtain ⟨p2, p3⟩ := wfu w1
  obtain ⟨p4, p5⟩ := wfu w2
  obtain ⟨p6, p7⟩ := wfu w3
  clear w0 w1 w2 w3
  obtain ⟨x, hx⟩ : ∃ x, imin a2 a3 = x := ⟨_, rfl⟩
  obtain ⟨y, hy⟩ : ∃ y, imax a2 a3 = y := ⟨_, rfl⟩
  have hx2 := hx
  have hy2 := hy
  unfold imin at hx2
  unfold imax at hy2
  have x0 : 0 ≤ x := by split at hx2 <;> omega
  have x1 : x ≤ 255 := by split at hx2 <;> omega
  have y0 : 0 ≤ y := by split at hy2 <;> omega
  have y1 : y ≤ 255 := by split at hy2 <;> omega
  have xy : x ≤ y := by split at hx2 <;> split at hy2 <;> omega
  clear hx2 hy2
  have h1 := cntW_one p0 p1
  obtain ⟨r1, hr1⟩ : ∃ r, imax a0 1 = r := ⟨_, rfl⟩
  rw [hr1] at h1
  have h2 := cntW_chunk (n := a0) xy
  have h3 := cntW_slots (x := x) (show a0 ≤ a0 + a1 by omega)
  obtain ⟨cy, hcy⟩ : ∃ r, cntW a0 y = r := ⟨_, rfl⟩
  obtain ⟨cx, hcx⟩ : ∃ r, cntW a0 x = r := ⟨_, rfl⟩
  obtain ⟨cm, hcm⟩ : ∃ r, cntW (a0 + a1) x = r := ⟨_, rfl⟩
  have bx := cntW_bd a0 x
  have bm := cntW_bd (a0 + a1) x
  have hs : sumT [a0, a0 + a1] x 2 = cx + cm := by
    simp only [sumT, List.getD]
    simp
    rw [hcx, hcm]
  rw [hcy, hcx] at h2
  rw [hcx, hcm] at h3
  rw [hcx] at bx
  rw [hcm] at bm
  have H1 := Lib.hid h1
  have HY := Lib.hid hcy
  have HX := Lib.hid hcx
  have HM := Lib.hid hcm
  have HS := Lib.hid hs
  have d2 : decide (cy ≤ cx) = true := by simpa using h2
  have d3 : decide (cm ≥ cx) = true := by simpa using h3
  obtain ⟨bx0, bx1⟩ := bx
  obtain ⟨bm0, bm1⟩ := bm
  have HB := Below.refl w.heap.size w
  clear h1 hcy hcx hcm hs h2 h3
  go_enter Try.func7, Try.ntmps7
  go_wp2_with (first
    | (go_at_call 8; (with_reducible refine (awake_true _).mono ?_); rintro e w1 ⟨rfl, hb1⟩; have HB := below_then HB hb1; clear hb1)
    | (go_at_call 12; (with_reducible refine (count_any _ 1 _ H1.out _).mono ?_); rintro e w2 ⟨rfl, rfl⟩)
    | (go_at_call 12; (with_reducible refine (count_any _ _ _ HY.out _).mono ?_); rintro e w2 ⟨rfl, rfl⟩)
    | (go_at_call 12; (with_reducible refine (count_any _ _ _ HX.out _).mono ?_); rintro e w2 ⟨rfl, rfl⟩)
    | (go_at_call 12; (with_reducible refine (count_any _ _ _ HM.out _).mono ?_); rintro e w2 ⟨rfl, rfl⟩)
    | (go_at_call 14; (with_reducible refine (most2 _ _ _ _ _ _ _ _ rfl HS.out).mono ?_); rintro e w2 ⟨rfl, rfl⟩)
    | fail)
  go_ret
  exact ⟨rfl, below_alloc0 HB _⟩
end Go.Proofs.Ytemjonahinohmaa
