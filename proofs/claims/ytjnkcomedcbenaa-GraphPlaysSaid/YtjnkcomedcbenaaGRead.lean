/- The document's graph: a slot read; walked. -/
import Derived.Test.YtjnkcomedcbenaaGPop
namespace Go.Proofs.Ytjnkcomedcbenaa
open Go.RowKit
set_option linter.unusedVariables false

/-- What is loaded, one node's slots, and one slot, among it. -/
structure Kd (w w' : World) (A : Option Addr) (rn c : Nat) (B : Option Addr) (nn d : Nat) (mo : Int) (b o : Nat) (u : Value) (b2 o2 : Nat) (u2 : Value) : Prop where
  kx : Kx w w' A rn c B nn d mo
  lt : b < w.heap.size
  c1 : w'.cell? ⟨b, o, none⟩ = some u
  lt2 : b2 < w.heap.size
  c2 : w'.cell? ⟨b2, o2, none⟩ = some u2
section
variable {w w' w2 : World} {A : Option Addr} {rn c : Nat} {B : Option Addr} {nn d : Nat} {mo : Int} {b o b2 o2 : Nat} {u u2 : Value}
theorem Kx.step (h : Kx w w' A rn c B nn d mo) (hb : Below w'.heap.size w' w2) : Kx w w2 A rn c B nn d mo := by
  have h1 := World.block_lt_of_cell? w' _ h.b0
  exact ⟨below_then h.bel hb, (hb.cell (p := ⟨w.heap.size, 0, none⟩) h1).trans h.b0, (hb.cell (p := ⟨w.heap.size, 1, none⟩) h1).trans h.b1, (hb.cell (p := ⟨w.heap.size, 2, none⟩) h1).trans h.b2⟩
theorem Kd.step (h : Kd w w' A rn c B nn d mo b o u b2 o2 u2) (hb : Below w'.heap.size w' w2) : Kd w w2 A rn c B nn d mo b o u b2 o2 u2 :=
  ⟨h.kx.step hb, h.lt, (hb.cell (p := ⟨b, o, none⟩) (Nat.lt_of_lt_of_le h.lt h.kx.bel.size)).trans h.c1, h.lt2, (hb.cell (p := ⟨b2, o2, none⟩) (Nat.lt_of_lt_of_le h.lt2 h.kx.bel.size)).trans h.c2⟩
theorem Kd.drew (h : Kd w w' A rn c B nn d mo b o u b2 o2 u2) : Kd w w'.drew A rn c B nn d mo b o u b2 o2 u2 := h.step (Below.refl _ _).drew
theorem Kd.all (h : Kd w w' A rn c B nn d mo b o u b2 o2 u2) :
    (w'.cell? ⟨w.heap.size, 0, none⟩ = some (.slice A rn c) ∧ w'.cell? ⟨w.heap.size, 1, none⟩ = some (.slice B nn d) ∧ w'.cell? ⟨w.heap.size, 2, none⟩ = some (.int .i64 mo) ∧ w'.cell? ⟨b, o, none⟩ = some u ∧ w'.cell? ⟨b2, o2, none⟩ = some u2) ∧ Kd w w' A rn c B nn d mo b o u b2 o2 u2 := ⟨⟨h.kx.b0, h.kx.b1, h.kx.b2, h.c1, h.c2⟩, h⟩
end

set_option maxHeartbeats 8000000 in
theorem read_any {P : Nat → Prop} (A : Option Addr) (rn c : Nat) (B : Option Addr) (nn d : Nat) (mo : Int) (g : Gr) (m a i : Int) (w : World) (h : GM P w A rn c B nn d mo g) (hk : Ok g) (hmo : g.most ≤ 1000) (hnn : nn ≤ 1000) (hP : ∀ b, w.heap.size ≤ b → P b) :
    Calls Try.prog 15 #[gV A rn c B nn d mo, .int .i64 m, .int .i64 a, .int .i64 i] w (SomeGIB P w (gRead g m a i).1 (gRead g m a i).2.1 (gRead g m a i).2.2) := by
  have HK := Lib.hid (Kq.start h)
  have HPP := Lib.hid hP
  have HOK := Lib.hid hk
  have hrn := h.ra.1
  have hnl := h.rb.1
  obtain ⟨x, hx⟩ : ∃ x, x = gRoom g m := ⟨_, rfl⟩
  obtain ⟨y, hy⟩ : ∃ y, y = gHas g m a i := ⟨_, rfl⟩
  have HX := Lib.hid hx.symm; have HY := Lib.hid hy.symm
  have hnn2 : nn ≤ 100000 := by omega
  by_cases hxy : x = true ∧ y = true
  case neg =>
    have e : gRead g m a i = (g, 0, false) := by
      unfold gRead
      rw [← hx, ← hy, if_neg]
      intro h; rw [Bool.and_eq_true] at h; exact hxy h
    rw [e]
    clear h hP hrn hx hy e hnl
    cases x
    case' true =>
      have hyf : y = false := by cases y; rfl; exact absurd ⟨rfl, rfl⟩ hxy
      subst hyf
    all_goals
      clear hxy
      go_enter Try.func15, Try.ntmps15
      go_wp2_with (first
        | (go_at_call 32; (with_reducible refine (room_any _ _ _ _ _ _ _ g _ _ HK.out.gm).mono ?_); rintro r w2 ⟨rfl, hb⟩; rw [HX.out]; have HK := Lib.hid (HK.out.step hb); clear hb; have b0 := HK.out.b0; have b1 := HK.out.b1; have b2 := HK.out.b2; have r0 := HK.out.r0; have r1 := HK.out.r1; have r2 := HK.out.r2; have hfr := HK.out.f)
        | (go_at_call 34; (with_reducible refine (has_any _ _ _ _ _ _ _ g _ _ _ _ HK.out.gm HOK.out hnn2).mono ?_); rintro r w3 ⟨rfl, hb⟩; rw [HY.out]; have HK := Lib.hid (HK.out.step hb); clear hb b0 b1 b2 r0 r1 r2 hfr; have b0 := HK.out.b0; have b1 := HK.out.b1; have b2 := HK.out.b2; have r0 := HK.out.r0; have r1 := HK.out.r1; have r2 := HK.out.r2; have hfr := HK.out.f)
        | fail)
      obtain ⟨e0, e1, e2⟩ := put3_cells HK.out.r0 HK.out.r1 HK.out.r2 (.slice A rn c) (.slice B nn d) (.int .i64 mo)
      exact bodyPost_ret (v := .tuple #[gV A rn c B nn d mo, .int .i64 0, .bool false]) (by simp [results, Try.results15, go_sem, e0, e1, e2]) rfl ⟨A, rn, c, B, nn, d, mo, rfl, HK.out.fin HK.out.gm⟩
  case pos =>
    obtain ⟨rfl, rfl⟩ := hxy
    have hri := room_in hx.symm
    have hhi := has_in hk hy.symm
    obtain ⟨j, rfl⟩ : ∃ j : Nat, m = (j : Int) := ⟨m.toNat, by omega⟩
    rw [Int.toNat_natCast] at hri
    obtain ⟨k, rfl⟩ : ∃ k : Nat, i = (k : Int) := ⟨i.toNat, by omega⟩
    rw [Int.toNat_natCast] at hhi
    obtain ⟨v, hv⟩ : ∃ v, v = gRoot g j a := ⟨_, rfl⟩
    have HV := Lib.hid hv.symm
    rw [← hv] at hhi
    obtain ⟨u, hu⟩ : ∃ u : Nat, v = (u : Int) + 1 := ⟨(v - 1).toNat, by omega⟩
    have hun : (v - 1).toNat = u := by omega
    rw [hun] at hhi
    obtain ⟨b, off, R, q, rfl, hlt, hcell, hrd, hq, hqm, hqn⟩ := h.rb.get u (by omega)
    obtain ⟨n, hn⟩ : ∃ n, n = (row g.nodes u).length := ⟨_, rfl⟩
    rw [← hn] at hcell hhi hq
    obtain ⟨b2, off2, rfl, hlt2, hc2⟩ := hrd (by omega)
    have hck := hc2 k (by omega)
    obtain ⟨z, hz⟩ : ∃ z, z = gSlot g j a k := ⟨_, rfl⟩
    have hz2 : (row g.nodes u).getD k 0 = z := by rw [hz]; unfold gSlot; rw [← hv, hun]; rfl
    rw [hz2] at hck
    have e : gRead g j a k = (gPush g j z, z, true) := by unfold gRead; rw [← hx, ← hy, ← hz]; simp
    rw [e]
    have hbw : Below w.heap.size w (two w A rn c (some ⟨b, off, none⟩) nn d mo) := below_alloc0 (below_alloc0 (Below.refl _ _) _) _
    have hkd : Kd w (two w A rn c (some ⟨b, off, none⟩) nn d mo) A rn c (some ⟨b, off, none⟩) nn d mo b (off + u) (.slice (some ⟨b2, off2, none⟩) n q) b2 (off2 + k) (.int .i64 z) :=
      ⟨HK.out.kx, hlt, (hbw.cell (p := ⟨b, off + u, none⟩) hlt).trans hcell, hlt2.1, (hbw.cell (p := ⟨b2, off2 + k, none⟩) hlt2.1).trans hck⟩
    have HKD := Lib.hid hkd
    have HI : Hid (j < rn) := Lib.hid (by omega)
    have HR1 : Hid (rn ≤ 10000) := Lib.hid (by have := hk.many; omega)
    have HR2 : Hid ((row g.roots j).length ≤ 10000) := Lib.hid (by omega)
    have hu0 : (0 : Int) ≤ (u : Int) := by omega
    have hu1 : (u : Int) < (nn : Int) := by omega
    have hk0 : (0 : Int) ≤ (k : Int) := by omega
    have hk1 : (k : Int) < (n : Int) := by omega
    have hw2 : IntKind.i64.wrap ((u : Int) + 1 - 1) = (u : Int) := by rw [IntKind.wrap_i64]; omega
    have hw3 : IntKind.i64.wrap (u : Int) = (u : Int) := by rw [IntKind.wrap_i64]; omega
    subst hu
    clear h hP hrn hx hy e hri hhi hv hun hcell hrd hn hc2 hck hz hz2 hbw hkd hk hqn hnl
    go_enter Try.func15, Try.ntmps15
    go_wp2_with (first
      | (go_at_call 32; (with_reducible refine (room_any _ _ _ _ _ _ _ g _ _ HK.out.gm).mono ?_); rintro r w2 ⟨rfl, hb⟩; rw [HX.out]; have HK := Lib.hid (HK.out.step hb); have HKD := Lib.hid (HKD.out.step hb); clear hb; have b0 := HK.out.b0; have b1 := HK.out.b1; have b2' := HK.out.b2)
      | (go_at_call 34; (with_reducible refine (has_any _ _ _ _ _ _ _ g _ _ _ _ HK.out.gm HOK.out hnn2).mono ?_); rintro r w3 ⟨rfl, hb⟩; rw [HY.out]; have HK := Lib.hid (HK.out.step hb); have HKD := Lib.hid (HKD.out.step hb); clear hb b0 b1 b2'; have b0 := HK.out.b0; have b1 := HK.out.b1; have b2' := HK.out.b2)
      | fail)
    clear b0 b1 b2'
    have HKW := Lib.hid HK.out.drew
    have hkd := HKD.out
    go_region_held3 (fun w' => (w'.cell? ⟨w.heap.size, 0, none⟩ = some (.slice A rn c) ∧ w'.cell? ⟨w.heap.size, 1, none⟩ = some (.slice (some ⟨b, off, none⟩) nn d) ∧ w'.cell? ⟨w.heap.size, 2, none⟩ = some (.int .i64 mo) ∧ w'.cell? ⟨b, off + u, none⟩ = some (.slice (some ⟨b2, off2, none⟩) n q) ∧ w'.cell? ⟨b2, off2 + k, none⟩ = some (.int .i64 z)) ∧ Kd w w' A rn c (some ⟨b, off, none⟩) nn d mo b (off + u) (.slice (some ⟨b2, off2, none⟩) n q) b2 (off2 + k) (.int .i64 z))
      (first | exact Kd.all (by assumption) | exact Kd.all (Kd.drew (by assumption)) | go_keep)
      (first
        | (go_at_call 35; (with_reducible refine (root_any _ _ _ _ _ _ _ g _ _ _ HKW.out.gm).mono ?_); rintro r w4 ⟨rfl, hb⟩; rw [HV.out]; have HK4 := Lib.hid (HKW.out.step hb); have hkd4 : Kd w w4 A rn c (some ⟨b, off, none⟩) nn d mo b (off + u) (.slice (some ⟨b2, off2, none⟩) n q) b2 (off2 + k) (.int .i64 z) := (HKD.out.drew).step hb; clear hb)
        | fail)
    have b0 := HK4.out.b0
    have b1 := HK4.out.b1
    have b2' := HK4.out.b2
    clear hkd hkd4
    go_wp2_with (first
      | (go_at_call 33; (with_reducible refine (push_any _ rn c _ _ _ _ g j _ _ HK4.out.gm HI.out HR1.out HR2.out (HK4.out.not1 HPP.out)).mono ?_); rintro r w5 ⟨A5, rn5, c5, B5, nn5, d5, mo5, rfl, hg5, hb⟩; have hk5 := HK4.out.step hb; have HK5 := Lib.hid hk5; have HG5 := Lib.hid hg5; have r0 := hk5.r0; have r1 := hk5.r1; have r2 := hk5.r2; have hfr := hk5.f; clear hb hk5 hg5 b0 b1 b2')
      | fail)
    obtain ⟨e0, e1, e2⟩ := put3_cells HK5.out.r0 HK5.out.r1 HK5.out.r2 (.slice A5 rn5 c5) (.slice B5 nn5 d5) (.int .i64 mo5)
    exact bodyPost_ret (v := .tuple #[gV A5 rn5 c5 B5 nn5 d5 mo5, .int .i64 z, .bool true]) (by simp [results, Try.results15, go_sem, e0, e1, e2]) rfl ⟨A5, rn5, c5, B5, nn5, d5, mo5, rfl, HK5.out.fin HG5.out⟩
end Go.Proofs.Ytjnkcomedcbenaa
