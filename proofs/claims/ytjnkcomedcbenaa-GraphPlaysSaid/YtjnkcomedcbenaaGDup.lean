/- The document's graph: a root once more; walked. -/
import Derived.Test.YtjnkcomedcbenaaGPush
namespace Go.Proofs.Ytjnkcomedcbenaa
open Go.RowKit
set_option linter.unusedVariables false

/-- A graph and a bool; a graph, a number and a bool. -/
def SomeGB (P : Nat → Prop) (w : World) (g : Gr) (x : Bool) (e : Ending) (w' : World) : Prop :=
  ∃ A rn c B nn d mo, e = .returned (.tuple #[gV A rn c B nn d mo, .bool x]) ∧ GM P w' A rn c B nn d mo g ∧ Below w.heap.size w w'
def SomeGIB (P : Nat → Prop) (w : World) (g : Gr) (y : Int) (x : Bool) (e : Ending) (w' : World) : Prop :=
  ∃ A rn c B nn d mo, e = .returned (.tuple #[gV A rn c B nn d mo, .int .i64 y, .bool x]) ∧ GM P w' A rn c B nn d mo g ∧ Below w.heap.size w w'
section
variable {P : Nat → Prop} {w w' : World} {A : Option Addr} {rn c : Nat} {B : Option Addr} {nn d : Nat} {mo : Int} {g g2 : Gr} {v : Value} {zs : List Int}
/-- The answer's cells, and what stands in it. -/
theorem Kq.fin (h : Kq (Not1 w P) w w' A rn c B nn d mo g v zs) {A2 : Option Addr} {rn2 c2 : Nat} {B2 : Option Addr} {nn2 d2 : Nat} {mo2 : Int} (h2 : GM (Not1 w P) w' A2 rn2 c2 B2 nn2 d2 mo2 g2) :
    GM P (put3 w w' (.slice A2 rn2 c2) (.slice B2 nn2 d2) (.int .i64 mo2)) A2 rn2 c2 B2 nn2 d2 mo2 g2 ∧ Below w.heap.size w (put3 w w' (.slice A2 rn2 c2) (.slice B2 nn2 d2) (.int .i64 mo2)) :=
  ⟨(h2.kept (put3_kept (Kept.refl (Not1 w P) w') _ _ _)).to fun _ _ h => h.1, put3_below h.bel _ _ _⟩
end

set_option maxHeartbeats 4000000 in
theorem dup_any {P : Nat → Prop} (A : Option Addr) (rn c : Nat) (B : Option Addr) (nn d : Nat) (mo : Int) (g : Gr) (m a : Int) (w : World) (h : GM P w A rn c B nn d mo g) (hk : Ok g) (hmo : g.most ≤ 1000) (hP : ∀ b, w.heap.size ≤ b → P b) :
    Calls Try.prog 18 #[gV A rn c B nn d mo, .int .i64 m, .int .i64 a] w (SomeGB P w (gDup g m a).1 (gDup g m a).2) := by
  have HK := Lib.hid (Kq.start h)
  have HPP := Lib.hid hP
  have hrn := h.ra.1
  obtain ⟨x, hx⟩ : ∃ x, x = gRoom g m := ⟨_, rfl⟩
  obtain ⟨y, hy⟩ : ∃ y, y = gRoot g m a := ⟨_, rfl⟩
  have HX := Lib.hid hx.symm; have HY := Lib.hid hy.symm
  cases x
  · have e : gDup g m a = (g, false) := by unfold gDup; rw [← hx]; simp
    rw [e]
    clear h hP hrn hx hy e
    go_enter Try.func18, Try.ntmps18
    go_wp2_with (first
      | (go_at_call 32; (with_reducible refine (room_any _ _ _ _ _ _ _ g _ _ HK.out.gm).mono ?_); rintro r w2 ⟨rfl, hb⟩; rw [HX.out]; have HK := Lib.hid (HK.out.step hb); clear hb; have b0 := HK.out.b0; have b1 := HK.out.b1; have b2 := HK.out.b2; have r0 := HK.out.r0; have r1 := HK.out.r1; have r2 := HK.out.r2; have hfr := HK.out.f)
      | fail)
    obtain ⟨e0, e1, e2⟩ := put3_cells HK.out.r0 HK.out.r1 HK.out.r2 (.slice A rn c) (.slice B nn d) (.int .i64 mo)
    exact bodyPost_ret (v := .tuple #[gV A rn c B nn d mo, .bool false]) (by simp [results, Try.results18, go_sem, e0, e1, e2]) rfl ⟨A, rn, c, B, nn, d, mo, rfl, HK.out.fin HK.out.gm⟩
  · have hri := room_in hx.symm
    obtain ⟨i, rfl⟩ : ∃ i : Nat, m = (i : Int) := ⟨m.toNat, by omega⟩
    rw [Int.toNat_natCast] at hri
    by_cases hy0 : y < 0
    · have e : gDup g i a = (g, false) := by unfold gDup; rw [← hx, ← hy, decide_eq_false (by omega)]; simp
      rw [e]
      clear h hP hrn hx hy e hri
      go_enter Try.func18, Try.ntmps18
      go_wp2_with (first
        | (go_at_call 32; (with_reducible refine (room_any _ _ _ _ _ _ _ g _ _ HK.out.gm).mono ?_); rintro r w2 ⟨rfl, hb⟩; rw [HX.out]; have HK := Lib.hid (HK.out.step hb); clear hb; have b0 := HK.out.b0; have b1 := HK.out.b1; have b2 := HK.out.b2; have r0 := HK.out.r0; have r1 := HK.out.r1; have r2 := HK.out.r2; have hfr := HK.out.f)
        | (go_at_call 35; (with_reducible refine (root_any _ _ _ _ _ _ _ g _ _ _ HK.out.gm).mono ?_); rintro r w3 ⟨rfl, hb⟩; rw [HY.out]; have HK := Lib.hid (HK.out.step hb); clear hb b0 b1 b2 r0 r1 r2 hfr; have b0 := HK.out.b0; have b1 := HK.out.b1; have b2 := HK.out.b2; have r0 := HK.out.r0; have r1 := HK.out.r1; have r2 := HK.out.r2; have hfr := HK.out.f)
        | fail)
      obtain ⟨e0, e1, e2⟩ := put3_cells HK.out.r0 HK.out.r1 HK.out.r2 (.slice A rn c) (.slice B nn d) (.int .i64 mo)
      exact bodyPost_ret (v := .tuple #[gV A rn c B nn d mo, .bool false]) (by simp [results, Try.results18, go_sem, e0, e1, e2]) rfl ⟨A, rn, c, B, nn, d, mo, rfl, HK.out.fin HK.out.gm⟩
    · have hy0' : 0 ≤ y := by omega
      have e : gDup g i a = (gPush g i y, true) := by unfold gDup; rw [← hx, ← hy, decide_eq_true hy0']; simp
      rw [e]
      have HI : Hid (i < rn) := Lib.hid (by omega)
      have HR1 : Hid (rn ≤ 10000) := Lib.hid (by have := hk.many; omega)
      have HR2 : Hid ((row g.roots i).length ≤ 10000) := Lib.hid (by omega)
      clear h hP hrn hx hy e hri hy0
      go_enter Try.func18, Try.ntmps18
      go_wp2_with (first
        | (go_at_call 32; (with_reducible refine (room_any _ _ _ _ _ _ _ g _ _ HK.out.gm).mono ?_); rintro r w2 ⟨rfl, hb⟩; rw [HX.out]; have HK := Lib.hid (HK.out.step hb); clear hb; have b0 := HK.out.b0; have b1 := HK.out.b1; have b2 := HK.out.b2; have r0 := HK.out.r0; have r1 := HK.out.r1; have r2 := HK.out.r2; have hfr := HK.out.f)
        | (go_at_call 35; (with_reducible refine (root_any _ _ _ _ _ _ _ g _ _ _ HK.out.gm).mono ?_); rintro r w3 ⟨rfl, hb⟩; rw [HY.out]; have HK := Lib.hid (HK.out.step hb); clear hb b0 b1 b2 r0 r1 r2 hfr; have b0 := HK.out.b0; have b1 := HK.out.b1; have b2 := HK.out.b2; have r0 := HK.out.r0; have r1 := HK.out.r1; have r2 := HK.out.r2; have hfr := HK.out.f)
        | fail)
      have HKD := Lib.hid HK.out.drew
      have hkk := HK.out.kx
      clear b0 b1 b2 r0 r1 r2 hfr
      go_region_held3 (fun w' => (w'.cell? ⟨w.heap.size, 0, none⟩ = some (.slice A rn c) ∧ w'.cell? ⟨w.heap.size, 1, none⟩ = some (.slice B nn d) ∧ w'.cell? ⟨w.heap.size, 2, none⟩ = some (.int .i64 mo)) ∧ Kx w w' A rn c B nn d mo)
        (first | exact Kx.all (by assumption) | exact Kx.all (Kx.drew (by assumption)) | exact Kx.all ((((by assumption : Kx w _ A rn c B nn d mo).set _ _).set _ _).set _ _) | go_keep)
        (first
          | (go_at_call 35; (with_reducible refine (root_any _ _ _ _ _ _ _ g _ _ _ HKD.out.gm).mono ?_); rintro r w4 ⟨rfl, hb⟩; rw [HY.out]; have hk4 := HKD.out.step hb; have HK4 := Lib.hid hk4; have hkx := hk4.kx; clear hb hk4)
          | (go_at_call 33; (with_reducible refine (push_any _ rn c _ _ _ _ g i _ _ HK4.out.gm HI.out HR1.out HR2.out (HK4.out.not1 HPP.out)).mono ?_); rintro r w5 ⟨A5, rn5, c5, B5, nn5, d5, mo5, rfl, hg5, hb⟩; have hk5 := HK4.out.step hb; have HK5 := Lib.hid hk5; have HG5 := Lib.hid hg5; have hkx5 := hk5.kx; have r0 := hk5.r0; have r1 := hk5.r1; have r2 := hk5.r2; have hfr := hk5.f; clear hb hk5 hg5)
          | fail)
      obtain ⟨e0, e1, e2⟩ := put3_cells HK5.out.r0 HK5.out.r1 HK5.out.r2 (.slice A5 rn5 c5) (.slice B5 nn5 d5) (.int .i64 mo5)
      have HF := Lib.hid (HK5.out.fin HG5.out)
      clear r0 r1 r2 hfr hkx hkk hkx5
      go_wp2_with (fail)
      exact bodyPost_ret (v := .tuple #[gV A5 rn5 c5 B5 nn5 d5 mo5, .bool true]) (by simp [results, Try.results18, go_sem, e0, e1, e2]) rfl ⟨A5, rn5, c5, B5, nn5, d5, mo5, rfl, HF.out⟩
end Go.Proofs.Ytjnkcomedcbenaa
