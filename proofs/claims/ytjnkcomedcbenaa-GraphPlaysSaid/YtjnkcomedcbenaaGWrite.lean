/- The document's graph: a slot written; walked. -/
import Derived.Test.YtjnkcomedcbenaaGRead
namespace Go.Proofs.Ytjnkcomedcbenaa
open Go.RowKit
set_option linter.unusedVariables false

theorem OwnV.get {B g n c : Nat} {w0 wr : World} {l : List Int} (h : OwnV 3 B w0 wr (.slice (some ⟨g, 0, none⟩) n c) (l.map (Value.int .i64))) (hn : n = l.length) (k : Nat) (hk : k < n) :
    wr.cell? ⟨g, k, none⟩ = some (.int .i64 (l.getD k 0)) ∧ wr.frozen? ⟨g, k, none⟩ = false := by
  obtain ⟨ho, _⟩ := h
  rw [List.length_map, ← hn] at ho
  refine ⟨?_, ho.frozenAt k⟩
  rw [ho.cellAt k (by omega)]
  exact map_get .i64 l k (by omega)
theorem OwnV.put {B g n c : Nat} {w0 wr : World} {l : List Int} (h : OwnV 3 B w0 wr (.slice (some ⟨g, 0, none⟩) n c) (l.map (Value.int .i64))) (hn : n = l.length) (k : Nat) (y : Int) :
    OwnV 3 B w0 (wr.setCell ⟨g, k, none⟩ (.int .i64 y)) (.slice (some ⟨g, 0, none⟩) n c) ((l.set k y).map (Value.int .i64)) := by
  have := h.set (by rw [List.length_map]; exact hn) k (.int .i64 y)
  rwa [List.map_set]

set_option maxHeartbeats 8000000 in
theorem write_any {P : Nat → Prop} (A : Option Addr) (rn c : Nat) (B : Option Addr) (nn d : Nat) (mo : Int) (g : Gr) (m a i b' : Int) (w : World) (h : GM P w A rn c B nn d mo g) (hk : Ok g) (hnn : nn ≤ 1000) (hP : ∀ b, w.heap.size ≤ b → P b) :
    Calls Try.prog 16 #[gV A rn c B nn d mo, .int .i64 m, .int .i64 a, .int .i64 i, .int .i64 b'] w (SomeGB P w (gWrite g m a i b').1 (gWrite g m a i b').2) := by
  have HK := Lib.hid (Kq.start h)
  have HPP := Lib.hid hP
  have HOK := Lib.hid hk
  have hnl := h.rb.1
  obtain ⟨x, hx⟩ : ∃ x, x = gHas g m a i := ⟨_, rfl⟩
  obtain ⟨y, hy⟩ : ∃ y, y = gRoot g m b' := ⟨_, rfl⟩
  have HX := Lib.hid hx.symm; have HY := Lib.hid hy.symm
  have hnn2 : nn ≤ 100000 := by omega
  by_cases hxy : x = true ∧ 0 ≤ y
  case neg =>
    have e : gWrite g m a i b' = (g, false) := by
      unfold gWrite
      rw [← hx, ← hy, if_neg]
      intro h; rw [Bool.and_eq_true] at h; exact hxy ⟨h.1, by simpa using h.2⟩
    rw [e]
    clear h hP hx hy e hnl
    cases x
    case' true =>
      have hyf : y < 0 := Int.not_le.1 fun h => hxy ⟨rfl, h⟩
    all_goals
      clear hxy
      go_enter Try.func16, Try.ntmps16
      go_wp2_with (first
        | (go_at_call 34; (with_reducible refine (has_any _ _ _ _ _ _ _ g _ _ _ _ HK.out.gm HOK.out hnn2).mono ?_); rintro r w3 ⟨rfl, hb⟩; rw [HX.out]; have HK := Lib.hid (HK.out.step hb); clear hb; have b0 := HK.out.b0; have b1 := HK.out.b1; have b2 := HK.out.b2; have r0 := HK.out.r0; have r1 := HK.out.r1; have r2 := HK.out.r2; have hfr := HK.out.f)
        | (go_at_call 35; (with_reducible refine (root_any _ _ _ _ _ _ _ g _ _ _ HK.out.gm).mono ?_); rintro r w4 ⟨rfl, hb⟩; rw [HY.out]; have HK := Lib.hid (HK.out.step hb); clear hb b0 b1 b2 r0 r1 r2 hfr; have b0 := HK.out.b0; have b1 := HK.out.b1; have b2 := HK.out.b2; have r0 := HK.out.r0; have r1 := HK.out.r1; have r2 := HK.out.r2; have hfr := HK.out.f)
        | fail)
      obtain ⟨e0, e1, e2⟩ := put3_cells HK.out.r0 HK.out.r1 HK.out.r2 (.slice A rn c) (.slice B nn d) (.int .i64 mo)
      exact bodyPost_ret (v := .tuple #[gV A rn c B nn d mo, .bool false]) (by simp [results, Try.results16, go_sem, e0, e1, e2]) rfl ⟨A, rn, c, B, nn, d, mo, rfl, HK.out.fin HK.out.gm⟩
  case pos =>
    obtain ⟨rfl, hy0⟩ := hxy
    have hhi := has_in hk hx.symm
    obtain ⟨k, rfl⟩ : ∃ k : Nat, i = (k : Int) := ⟨i.toNat, by omega⟩
    rw [Int.toNat_natCast] at hhi
    obtain ⟨v, hv⟩ : ∃ v, v = gRoot g m a := ⟨_, rfl⟩
    have HV := Lib.hid hv.symm
    rw [← hv] at hhi
    obtain ⟨u, hu⟩ : ∃ u : Nat, v = (u : Int) + 1 := ⟨(v - 1).toNat, by omega⟩
    have hun : (v - 1).toNat = u := by omega
    rw [hun] at hhi
    obtain ⟨b, off, R, q, rfl, hlt, hcell, hrd, hq, hqm, hqn⟩ := h.rb.get u (by omega)
    obtain ⟨l, hl⟩ : ∃ l, l = row g.nodes u := ⟨_, rfl⟩
    rw [← hl] at hcell hhi hq hrd
    obtain ⟨n, hn⟩ : ∃ n, n = l.length := ⟨_, rfl⟩
    rw [← hn] at hcell hhi hq
    have hlen : n ≤ 64 := by have := hk.sz u (by omega); rw [← hl, ← hn] at this; exact this
    have e : gWrite g m a k b' = (⟨g.roots, g.nodes.set u (l.set k y), g.most⟩, true) := by
      unfold gWrite gPut
      rw [← hx, ← hy, decide_eq_true hy0, ← hv, hun, ← hl]; simp
    rw [e]
    have hbw : Below w.heap.size w (two w A rn c (some ⟨b, off, none⟩) nn d mo) := below_alloc0 (below_alloc0 (Below.refl _ _) _) _
    have HC : Hid (∀ w', Below w.heap.size w w' → w'.cell? ⟨b, off + u, none⟩ = some (.slice R n q) ∧ Cells P w' R (l.map (Value.int .i64))) :=
      Lib.hid fun w' hb => ⟨(hb.cell (p := ⟨b, off + u, none⟩) hlt).trans hcell, (hrd.kept (Kept.below hb)).cells⟩
    have HN := Lib.hid hn; have HQN := Lib.hid hqn
    have HI : Hid (u < nn) := Lib.hid (by omega)
    have HR1 : Hid (nn ≤ 10000) := Lib.hid (by omega)
    have HKN : Hid (k < n) := Lib.hid (by omega)
    have hu0 : (0 : Int) ≤ (u : Int) := by omega
    have hu1 : (u : Int) < (nn : Int) := by omega
    have hk0 : (0 : Int) ≤ (k : Int) := by omega
    have hk1 : (k : Int) < (n : Int) := by omega
    have hw2 : IntKind.i64.wrap ((u : Int) + 1 - 1) = (u : Int) := by rw [IntKind.wrap_i64]; omega
    have hw3 : IntKind.i64.wrap (u : Int) = (u : Int) := by rw [IntKind.wrap_i64]; omega
    have hqq : n ≤ q := hq
    subst hu
    clear h hP hx hy e hhi hv hun hcell hrd hn hbw hk hqn hl hnl
    go_enter Try.func16, Try.ntmps16
    go_wp2_with (first
      | (go_at_call 34; (with_reducible refine (has_any _ _ _ _ _ _ _ g _ _ _ _ HK.out.gm HOK.out hnn2).mono ?_); rintro r w3 ⟨rfl, hb⟩; rw [HX.out]; have HK := Lib.hid (HK.out.step hb); clear hb; have b0 := HK.out.b0; have b1 := HK.out.b1; have b2 := HK.out.b2; have hcu := (HC.out _ HK.out.bel).1)
      | (go_at_call 35; (with_reducible refine (root_any _ _ _ _ _ _ _ g _ _ _ HKV.out.gm).mono ?_); rintro r w6 ⟨rfl, hb⟩; rw [HY.out]
         have ho6 := HO.out.step (Nat.le_refl _) hb
         obtain ⟨hcg, hfg⟩ := ho6.get HN.out k HKN.out
         have HO7 := Lib.hid (ho6.put HN.out k y)
         have HK7 := Lib.hid (HK.out.step (ho6.put HN.out k y).2)
         clear ho6 hb b0 b1 b2)
      | (go_at_call 35; (with_reducible refine (root_any _ _ _ _ _ _ _ g _ _ _ HK.out.gm).mono ?_); rintro r w4 ⟨rfl, hb⟩; (first | rw [HV.out] | rw [HY.out]); have HK := Lib.hid (HK.out.step hb); clear hb b0 b1 b2 hcu; have b0 := HK.out.b0; have b1 := HK.out.b1; have b2 := HK.out.b2; have hcu := (HC.out _ HK.out.bel).1)
      | (at_builtin; refine append_more rfl _ _ 43 3 rfl Try.underlying43 info3 rfl (by decide) _ _ (.slice none 0 0) [] (OwnV.nil (Below.refl _ _)) (Nat.le_refl _) R n q (l.map (Value.int .i64)) rfl rfl (by rw [List.length_map]; exact HN.out) (by simp; omega) hqq HQN.out (HC.out _ HK.out.bel).2 (map_one l) ?_
         rintro v1 w5 ho -
         rw [List.nil_append] at ho
         obtain ⟨A1, c1, hv1, hv2, hv3, hv4, hv5, hv6⟩ := ho.at'
         obtain ⟨g1, rfl, hg1, hg2, hfr⟩ := hv6 (by rw [List.length_map, ← HN.out]; have := HKN.out; omega)
         rw [List.length_map, ← HN.out] at hv1
         subst hv1
         have HO := Lib.hid ho
         have HKV := Lib.hid (HK.out.step ho.2)
         clear ho hv2 hv3 hv4 hv5 hv6 hg1 hg2 hfr b0 b1 b2 hcu
         have b0 := HKV.out.b0
         have b1 := HKV.out.b1
         have b2 := HKV.out.b2)
      | fail)
    clear hcg hfg
    have HKD := Lib.hid HK7.out.drew
    have hkk := HK7.out.kx
    have HROW : Hid (RowV (Not1 w P) (w6.setCell ⟨g1, k, none⟩ (.int .i64 y)).drew (.slice (some ⟨g1, 0, none⟩) n c1) (l.set k y)) :=
      Lib.hid ((HO7.out.rowV.to fun b _ hb => HK.out.not1 HPP.out b hb).kept (Kept.below (Below.refl _ _).drew))
    go_region_held3 (fun w' => (w'.cell? ⟨w.heap.size, 0, none⟩ = some (.slice A rn c) ∧ w'.cell? ⟨w.heap.size, 1, none⟩ = some (.slice (some ⟨b, off, none⟩) nn d) ∧ w'.cell? ⟨w.heap.size, 2, none⟩ = some (.int .i64 mo)) ∧ Kx w w' A rn c (some ⟨b, off, none⟩) nn d mo)
      (first | exact Kx.all (by assumption) | exact Kx.all (Kx.drew (by assumption)) | exact Kx.all ((((by assumption : Kx w _ A rn c (some ⟨b, off, none⟩) nn d mo).set _ _).set _ _).set _ _) | go_keep)
      (first
        | (go_at_call 36; (with_reducible refine (with_any _ nn d g.nodes u _ (l.set k y) _ HKD.out.gm.rb HI.out HR1.out HROW.out (HKD.out.not1 HPP.out)).mono ?_); rintro r w8 ⟨A3, c3, rfl, hr3, hb3⟩; have hk3 := HKD.out.step hb3; have r0 := hk3.r0; have r1 := hk3.r1; have r2 := hk3.r2; have hfr := hk3.f; have HR3 := Lib.hid hr3; have HK3 := Lib.hid hk3; have hkx := hk3.kx; clear hr3 hb3 hk3)
        | fail)
    obtain ⟨e6, e7, e8⟩ := put3_cells HK3.out.r0 HK3.out.r1 HK3.out.r2 (.slice A rn c) (.slice A3 nn c3) (.int .i64 mo)
    have HF := Lib.hid (HK3.out.fin (g2 := ⟨g.roots, g.nodes.set u (l.set k y), g.most⟩) ⟨HK3.out.gm.mo, HK3.out.gm.ra, HR3.out⟩)
    clear r0 r1 r2 hfr hkx hkk
    go_wp2_with (fail)
    exact bodyPost_ret (v := .tuple #[gV A rn c A3 nn c3 mo, .bool true]) (by simp [results, Try.results16, go_sem, e6, e7, e8]) rfl ⟨A, rn, c, A3, nn, c3, mo, rfl, HF.out⟩
end Go.Proofs.Ytjnkcomedcbenaa
