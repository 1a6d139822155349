/- The document's graph: a root dropped; walked. -/
import Derived.Test.YtjnkcomedcbenaaGAlloc
namespace Go.Proofs.Ytjnkcomedcbenaa
open Go.RowKit
set_option linter.unusedVariables false

/-- What is loaded, one list's slice among it. -/
def Kc (w w' : World) (A : Option Addr) (rn c : Nat) (B : Option Addr) (nn d : Nat) (mo : Int) (b o : Nat) (u : Value) : Prop := Kx w w' A rn c B nn d mo ∧ b < w.heap.size ∧ w'.cell? ⟨b, o, none⟩ = some u
section
variable {w w' : World} {A : Option Addr} {rn c : Nat} {B : Option Addr} {nn d : Nat} {mo : Int} {b o : Nat} {u : Value}
theorem Kc.drew (h : Kc w w' A rn c B nn d mo b o u) : Kc w w'.drew A rn c B nn d mo b o u := ⟨h.1.drew, h.2.1, h.2.2⟩
theorem Kc.set (h : Kc w w' A rn c B nn d mo b o u) (k : Nat) (v : Value) : Kc w (w'.setCell ⟨w.heap.size + 1, k, none⟩ v) A rn c B nn d mo b o u :=
  ⟨h.1.set k v, h.2.1, (World.cell?_setCell_other _ _ _ _ (by intro e; injection e with e1; have := h.2.1; omega)).trans h.2.2⟩
theorem Kc.all (h : Kc w w' A rn c B nn d mo b o u) :
    (w'.cell? ⟨w.heap.size, 0, none⟩ = some (.slice A rn c) ∧ w'.cell? ⟨w.heap.size, 1, none⟩ = some (.slice B nn d) ∧ w'.cell? ⟨w.heap.size, 2, none⟩ = some (.int .i64 mo) ∧ w'.cell? ⟨b, o, none⟩ = some u) ∧ Kc w w' A rn c B nn d mo b o u := ⟨⟨h.1.b0, h.1.b1, h.1.b2, h.2.2⟩, h⟩
end
theorem drop_reads {P : Nat → Prop} {w : World} {R : Option Addr} {l : List Int} (h : Reads P w R l) : Reads P w R l.dropLast := fun h0 => by
  have h0' : 0 < l.length := by simp at h0; omega
  obtain ⟨b, off, e, hlt, hc⟩ := h h0'
  refine ⟨b, off, e, hlt, fun j hj => ?_⟩
  have hj' : j < l.length - 1 := by simpa using hj
  rw [hc j (by omega)]
  have := num_drop l j hj'
  unfold num at this
  rw [this]

set_option maxRecDepth 100000 in
theorem slice_drop (b off p q : Nat) (h : p + 1 ≤ q) (w : World) : (Instr.slice 43 (.slice (some ⟨b, off, none⟩) (p + 1) q) none (some (.int .i64 (p : Int))) none).run Try.prog w = .ok (.slice (some ⟨b, off, none⟩) p q) w := by
  have e := run_slice_h (P := Try.prog) w 43 (some ⟨b, off, none⟩) (p + 1) q Try.underlying43 .i64 (p : Int) (by omega) (by omega)
  rw [e]
  have hq : ¬ q = 0 := by omega
  simp [sliced, go_sem, hq]
set_option maxHeartbeats 8000000 in
theorem pop_any {P : Nat → Prop} (A : Option Addr) (rn c : Nat) (B : Option Addr) (nn d : Nat) (mo : Int) (g : Gr) (m : Int) (w : World) (h : GM P w A rn c B nn d mo g) (hk : Ok g) (hmo : g.most ≤ 1000) (hP : ∀ b, w.heap.size ≤ b → P b) :
    Calls Try.prog 17 #[gV A rn c B nn d mo, .int .i64 m] w (SomeGB P w (gPop g m).1 (gPop g m).2) := by
  have HK := Lib.hid (Kq.start h)
  have HG := Lib.hid h
  have HPP := Lib.hid hP
  have hrn := h.ra.1
  cases hm : isIn g.roots.length m
  · have e : gPop g m = (g, false) := by unfold gPop; rw [hm]; simp
    have hno := isIn_no hm
    rw [e]
    by_cases hz : m < 0
    · have hz1 : decide (m < 0) = true := by simpa using hz
      clear hm hno e h hrn hP
      go_enter Try.func17, Try.ntmps17
      go_wp2_with (fail)
      exact bodyPost_ret (v := .tuple #[gV A rn c B nn d mo, .bool false]) (by simp [results, Try.results17, go_sem]) rfl ⟨A, rn, c, B, nn, d, mo, rfl, HG.out.below (below_alloc0 (below_alloc0 (Below.refl _ _) _) _), below_alloc0 (below_alloc0 (Below.refl _ _) _) _⟩
    · have hz1 : decide (m < 0) = false := by simpa using hz
      have hz0 : 0 ≤ m := by omega
      have ht3 : (rn : Int) ≤ m := by omega
      clear hm hno e h hrn hP hz
      go_enter Try.func17, Try.ntmps17
      go_wp2_with (fail)
      exact bodyPost_ret (v := .tuple #[gV A rn c B nn d mo, .bool false]) (by simp [results, Try.results17, go_sem]) rfl ⟨A, rn, c, B, nn, d, mo, rfl, HG.out.below (below_alloc0 (below_alloc0 (Below.refl _ _) _) _), below_alloc0 (below_alloc0 (Below.refl _ _) _) _⟩
  · have hmi := isIn_iff.1 hm
    obtain ⟨i, rfl⟩ : ∃ i : Nat, m = (i : Int) := ⟨m.toNat, by omega⟩
    obtain ⟨b, off, R, q, rfl, hlt, hcell, hrd, hq, hqm, hqn⟩ := h.ra.get i (by omega)
    obtain ⟨l, hl⟩ : ∃ l, l = row g.roots i := ⟨_, rfl⟩
    rw [← hl] at hcell hrd hq
    obtain ⟨n, hn⟩ : ∃ n, n = l.length := ⟨_, rfl⟩
    rw [← hn] at hcell hq
    have hi0 : (0 : Int) ≤ (i : Int) := by omega
    have hi1 : (i : Int) < (rn : Int) := by omega
    have hci := ((below_alloc0 (below_alloc0 (Below.refl _ _) _) _ : Below w.heap.size w (two w (some ⟨b, off, none⟩) rn c B nn d mo)).cell (p := ⟨b, off + i, none⟩) hlt).trans hcell
    have hlen : n ≤ 1000 := by have := hk.len i (by omega); rw [← hl] at this; omega
    by_cases hn0 : n = 0
    · have e : gPop g i = (g, false) := by unfold gPop; rw [hm, Int.toNat_natCast, ← hl, ← hn, hn0]; simp
      rw [e]
      subst hn0
      clear hm hmi e h hrn hP hrd hq hqn hcell hl hn
      go_enter Try.func17, Try.ntmps17
      go_wp2_with (fail)
      exact bodyPost_ret (v := .tuple #[gV (some ⟨b, off, none⟩) rn c B nn d mo, .bool false]) (by simp [results, Try.results17, go_sem]) rfl ⟨some ⟨b, off, none⟩, rn, c, B, nn, d, mo, rfl, HG.out.below (below_alloc0 (below_alloc0 (Below.refl _ _) _) _), below_alloc0 (below_alloc0 (Below.refl _ _) _) _⟩
    · obtain ⟨p, hp⟩ : ∃ p, n = p + 1 := ⟨n - 1, by omega⟩
      have e : gPop g i = (⟨g.roots.set i l.dropLast, g.nodes, g.most⟩, true) := by
        unfold gPop; rw [hm, Int.toNat_natCast, ← hl, ← hn, decide_eq_true (by omega)]; simp
      rw [e]
      have hrow : RowV (Not1 w P) (two w (some ⟨b, off, none⟩) rn c B nn d mo) (.slice R p q) l.dropLast := by
        refine ⟨R, q, by rw [List.length_dropLast, ← hn, hp]; rfl, ?_, by rw [List.length_dropLast]; omega, hqm, hqn⟩
        exact drop_reads ((hrd.to fun b hlt hp => ⟨hp, by omega, by omega⟩).kept (Kept.below (below_alloc0 (below_alloc0 (Below.refl _ _) _) _)))
      have HROW := Lib.hid hrow
      have HI : Hid (i < rn) := Lib.hid (by omega)
      have HR1 : Hid (rn ≤ 10000) := Lib.hid (by have := hk.many; omega)
      have hkc : Kc w (two w (some ⟨b, off, none⟩) rn c B nn d mo) (some ⟨b, off, none⟩) rn c B nn d mo b (off + i) (.slice R n q) := ⟨HK.out.kx, hlt, hci⟩
      obtain ⟨b2, off2, rfl, hlt2, -⟩ := hrd (by omega)
      have hq0 : ¬ q = 0 := by omega
      have hq1 : ((q : Nat) == 0) = false := by rw [beq_eq_false_iff_ne]; exact hq0
      have hq2 : ¬ (0 : Int) = (q : Int) := by omega
      subst hp
      have hw1 : IntKind.i64.wrap (((p + 1 : Nat) : Int) - 1) = (p : Int) := by rw [IntKind.wrap_i64]; omega
      have hw2 : IntKind.i64.wrap ((p : Int) + 1 - 1) = (p : Int) := by rw [IntKind.wrap_i64]; omega
      have hw3 : IntKind.i64.wrap (p : Int) = (p : Int) := by rw [IntKind.wrap_i64]; omega
      have hsl : ∀ w, (Instr.slice 43 (.slice (some ⟨b2, off2, none⟩) (p + 1) q) none (some (.int .i64 (p : Int))) none).run Try.prog w = .ok (.slice (some ⟨b2, off2, none⟩) p q) w := fun w => slice_drop b2 off2 p q (by omega) w
      have e1 : (((p + 1 : Nat) : Int) == 0) = false := by rw [beq_eq_false_iff_ne]; omega
      have e2 : ((p + 1) == 0) = false := by rw [beq_eq_false_iff_ne]; omega
      have e3 : ((p : Int) + 1 == 0) = false := by rw [beq_eq_false_iff_ne]; omega
      have e4 : decide ((i : Int) < 0) = false := by simp
      have e5 : decide (rn ≤ i) = false := by simp; omega
      have hp0 : (0 : Int) ≤ (p : Int) := by omega
      have hpq : (p : Int) ≤ (q : Int) := by omega
      clear hm hmi e h hrn hP hrd hqn hcell hl hn hrow hn0
      go_enter Try.func17, Try.ntmps17
      go_wp2_with (fail)
      have HKD := Lib.hid HK.out.drew
      go_region_held3 (fun w' => (w'.cell? ⟨w.heap.size, 0, none⟩ = some (.slice (some ⟨b, off, none⟩) rn c) ∧ w'.cell? ⟨w.heap.size, 1, none⟩ = some (.slice B nn d) ∧ w'.cell? ⟨w.heap.size, 2, none⟩ = some (.int .i64 mo) ∧ w'.cell? ⟨b, off + i, none⟩ = some (.slice (some ⟨b2, off2, none⟩) (p + 1) q)) ∧ Kc w w' (some ⟨b, off, none⟩) rn c B nn d mo b (off + i) (.slice (some ⟨b2, off2, none⟩) (p + 1) q))
        (first | exact Kc.all (by assumption) | exact Kc.all (Kc.drew (by assumption)) | exact Kc.all ((((by assumption : Kc w _ (some ⟨b, off, none⟩) rn c B nn d mo b (off + i) (.slice (some ⟨b2, off2, none⟩) (p + 1) q)).set _ _).set _ _).set _ _) | go_keep)
        (first
          | (go_at_call 36; (with_reducible refine (with_any _ rn c g.roots i (.slice (some ⟨b2, off2, none⟩) p q) l.dropLast _ HKD.out.gm.ra HI.out HR1.out (HROW.out.kept (Kept.below (Below.refl _ _).drew)) (HKD.out.not1 HPP.out)).mono ?_); rintro r w3 ⟨A3, c3, rfl, hr3, hb3⟩; have hk3 := HKD.out.step hb3; have r0 := hk3.r0; have r1 := hk3.r1; have r2 := hk3.r2; have hfr := hk3.f; have HR3 := Lib.hid hr3; have HK3 := Lib.hid hk3; have hkx : Kc w w3 (some ⟨b, off, none⟩) rn c B nn d mo b (off + i) (.slice (some ⟨b2, off2, none⟩) (p + 1) q) := ⟨hk3.kx, hlt, (hb3.cell (p := ⟨b, off + i, none⟩) (by show b < (two w _ rn c B nn d mo).heap.size; simp; omega)).trans hkc.2.2⟩; clear hr3 hb3 hk3)
          | fail)
      obtain ⟨e6, e7, e8⟩ := put3_cells HK3.out.r0 HK3.out.r1 HK3.out.r2 (.slice A3 rn c3) (.slice B nn d) (.int .i64 mo)
      have HF := Lib.hid (HK3.out.fin (g2 := ⟨g.roots.set i l.dropLast, g.nodes, g.most⟩) ⟨HK3.out.gm.mo, HR3.out, HK3.out.gm.rb⟩)
      clear r0 r1 r2 hfr hkx hkc hci
      go_wp2_with (fail)
      exact bodyPost_ret (v := .tuple #[gV A3 rn c3 B nn d mo, .bool true]) (by simp [results, Try.results17, go_sem, e6, e7, e8]) rfl ⟨A3, rn, c3, B, nn, d, mo, rfl, HF.out⟩
end Go.Proofs.Ytjnkcomedcbenaa
