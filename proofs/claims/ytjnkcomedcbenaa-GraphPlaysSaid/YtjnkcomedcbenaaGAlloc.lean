/- The document's graph: a new node; walked. -/
import Derived.Test.YtjnkcomedcbenaaGDup
namespace Go.Proofs.Ytjnkcomedcbenaa
open Go.RowKit
set_option linter.unusedVariables false

theorem made_ints (n : Nat) : (madeCells (Value.int .i64 0).cells n).toList = List.replicate n (.int .i64 0) := by
  apply List.ext_getElem?
  intro j
  by_cases hj : j < n
  · simp [madeCells, hj, Value.cells, Nat.mod_one]
  · simp [madeCells, hj]
theorem make_ints (n : Nat) (w : World) (hn : n ≤ 1000000) : (Instr.makeSlice 43 (.int .i64 (n : Int)) (.int .i64 (n : Int))).run Try.prog w = .ok (.slice (some ⟨w.heap.size, 0, none⟩) n n) (w.alloc (.cells ((List.replicate n (0 : Int)).map (Value.int .i64)).toArray 3)) := by
  obtain ⟨i0, hi, hz0, hz1, hz2⟩ := info_parts info3
  have := run_make w 43 3 i0 (.int .i64 0) Try.underlying43 hi hz0 .i64 .i64 n n (by omega) (Int.le_refl _) (by rw [hz2]; omega) (by omega)
  have e : madeCells (Value.int .i64 0).cells n = ((List.replicate n (0 : Int)).map (Value.int .i64)).toArray := by
    apply Array.ext'
    rw [made_ints]; simp
  simpa [hz1, e] using this
theorem rowV_made (w : World) (n : Nat) (hn : n ≤ 1000000) : RowV (w.heap.size ≤ ·) (w.alloc (.cells ((List.replicate n (0 : Int)).map (Value.int .i64)).toArray 3)) (.slice (some ⟨w.heap.size, 0, none⟩) n n) (List.replicate n 0) := by
  refine ⟨some ⟨w.heap.size, 0, none⟩, n, by rw [List.length_replicate], fun _ => ⟨w.heap.size, 0, rfl, ⟨by simp, Nat.le_refl _⟩, fun j hj => ?_⟩, by simp, by unfold maxLen; omega, fun e => by cases e⟩
  rw [Nat.zero_add, World.cell?_alloc_at _ _ _ _ rfl]
  have hj' : j < n := by simpa using hj
  simp [List.getD, hj']
theorem cells_at (w : World) (v : Value) (T : TypeId) (k : Nat) (hk : k = w.heap.size) : Cells Any (w.alloc (.cells #[v] T)) (some ⟨k, 0, none⟩) [v] := by subst hk; exact cells_lit w v T

set_option maxHeartbeats 8000000 in
theorem alloc_any {P : Nat → Prop} (A : Option Addr) (rn c : Nat) (B : Option Addr) (nn d : Nat) (mo : Int) (g : Gr) (m n : Int) (w : World) (h : GM P w A rn c B nn d mo g) (hk : Ok g) (hmo : g.most ≤ 1000) (hnn : nn ≤ 1000) (hP : ∀ b, w.heap.size ≤ b → P b) :
    Calls Try.prog 14 #[gV A rn c B nn d mo, .int .i64 m, .int .i64 n] w (SomeGIB P w (gAlloc g m n).1 (gAlloc g m n).2.1 (gAlloc g m n).2.2) := by
  have HK := Lib.hid (Kq.start h)
  have HPP := Lib.hid hP
  have hrn := h.ra.1
  obtain ⟨x, hx⟩ : ∃ x, x = gRoom g m := ⟨_, rfl⟩
  have HX := Lib.hid hx.symm
  by_cases hc : x = true ∧ 0 ≤ n ∧ n ≤ 64
  case neg =>
    have e : gAlloc g m n = (g, 0, false) := by
      unfold gAlloc
      rw [← hx, if_neg]
      intro h
      rw [Bool.and_eq_true] at h
      exact hc ⟨h.1, by simpa using h.2⟩
    rw [e]
    clear h hP hrn hx e
    cases x
    · clear hc
      go_enter Try.func14, Try.ntmps14
      go_wp2_with (first
        | (go_at_call 32; (with_reducible refine (room_any _ _ _ _ _ _ _ g _ _ HK.out.gm).mono ?_); rintro r w2 ⟨rfl, hb⟩; rw [HX.out]; have HK := Lib.hid (HK.out.step hb); clear hb; have b0 := HK.out.b0; have b1 := HK.out.b1; have b2 := HK.out.b2; have r0 := HK.out.r0; have r1 := HK.out.r1; have r2 := HK.out.r2; have hfr := HK.out.f)
        | fail)
      obtain ⟨e0, e1, e2⟩ := put3_cells HK.out.r0 HK.out.r1 HK.out.r2 (.slice A rn c) (.slice B nn d) (.int .i64 mo)
      exact bodyPost_ret (v := .tuple #[gV A rn c B nn d mo, .int .i64 0, .bool false]) (by simp [results, Try.results14, go_sem, e0, e1, e2]) rfl ⟨A, rn, c, B, nn, d, mo, rfl, HK.out.fin HK.out.gm⟩
    · by_cases hn0 : n < 0
      · clear hc
        go_enter Try.func14, Try.ntmps14
        go_wp2_with (first
          | (go_at_call 32; (with_reducible refine (room_any _ _ _ _ _ _ _ g _ _ HK.out.gm).mono ?_); rintro r w2 ⟨rfl, hb⟩; rw [HX.out]; have HK := Lib.hid (HK.out.step hb); clear hb; have b0 := HK.out.b0; have b1 := HK.out.b1; have b2 := HK.out.b2; have r0 := HK.out.r0; have r1 := HK.out.r1; have r2 := HK.out.r2; have hfr := HK.out.f)
          | fail)
        obtain ⟨e0, e1, e2⟩ := put3_cells HK.out.r0 HK.out.r1 HK.out.r2 (.slice A rn c) (.slice B nn d) (.int .i64 mo)
        exact bodyPost_ret (v := .tuple #[gV A rn c B nn d mo, .int .i64 0, .bool false]) (by simp [results, Try.results14, go_sem, e0, e1, e2]) rfl ⟨A, rn, c, B, nn, d, mo, rfl, HK.out.fin HK.out.gm⟩
      · have hn1 : 0 ≤ n := by omega
        have hn2 : 64 < n := Int.not_le.1 fun h => hc ⟨rfl, hn1, h⟩
        clear hc
        go_enter Try.func14, Try.ntmps14
        go_wp2_with (first
          | (go_at_call 32; (with_reducible refine (room_any _ _ _ _ _ _ _ g _ _ HK.out.gm).mono ?_); rintro r w2 ⟨rfl, hb⟩; rw [HX.out]; have HK := Lib.hid (HK.out.step hb); clear hb; have b0 := HK.out.b0; have b1 := HK.out.b1; have b2 := HK.out.b2; have r0 := HK.out.r0; have r1 := HK.out.r1; have r2 := HK.out.r2; have hfr := HK.out.f)
          | fail)
        obtain ⟨e0, e1, e2⟩ := put3_cells HK.out.r0 HK.out.r1 HK.out.r2 (.slice A rn c) (.slice B nn d) (.int .i64 mo)
        exact bodyPost_ret (v := .tuple #[gV A rn c B nn d mo, .int .i64 0, .bool false]) (by simp [results, Try.results14, go_sem, e0, e1, e2]) rfl ⟨A, rn, c, B, nn, d, mo, rfl, HK.out.fin HK.out.gm⟩
  case pos =>
    obtain ⟨rfl, hn0, hn1⟩ := hc
    have hri := room_in hx.symm
    obtain ⟨i, rfl⟩ : ∃ i : Nat, m = (i : Int) := ⟨m.toNat, by omega⟩
    rw [Int.toNat_natCast] at hri
    obtain ⟨k, rfl⟩ : ∃ k : Nat, n = (k : Int) := ⟨n.toNat, by omega⟩
    obtain ⟨ns, hns⟩ : ∃ ns, ns = g.nodes ++ [List.replicate k 0] := ⟨_, rfl⟩
    have hnnl := h.rb.1
    have e : gAlloc g i k = (gPush ⟨g.roots, ns, g.most⟩ i ((nn : Int) + 1), (nn : Int) + 1, true) := by
      unfold gAlloc
      rw [← hx, decide_eq_true ⟨hn0, hn1⟩, hns, hnnl]; simp
    rw [e]
    have HI : Hid (i < rn) := Lib.hid (by omega)
    have HR1 : Hid (rn ≤ 10000) := Lib.hid (by have := hk.many; omega)
    have HR2 : Hid ((row g.roots i).length ≤ 10000) := Lib.hid (by omega)
    have HNL : Hid (ns.length = nn + 1) := Lib.hid (by rw [hns, hnnl]; simp)
    obtain ⟨g1, g2, g3, g4, vs, g5, g6⟩ := h.rb
    have HV : Hid (∀ w', Below w.heap.size w w' → RowsV (Not1 w P) w' vs g.nodes ∧ Cells (Not1 w P) w' B vs) :=
      Lib.hid fun w' hb => ⟨(g5.to fun b hlt hp => ⟨hp, by omega, by omega⟩).kept (Kept.below hb), (g6.to fun b hlt hp => ⟨hp, by omega, by omega⟩).kept (Kept.below hb)⟩
    have HVL : Hid (nn = vs.length) := Lib.hid (by rw [g5.1]; exact hnnl)
    have HNS := Lib.hid hns
    have hmk := fun w => make_ints k w (by omega)
    have hmade := fun w => rowV_made w k (by omega)
    obtain ⟨C, hC⟩ : ∃ C, C = ((List.replicate k (0 : Int)).map (Value.int .i64)).toArray := ⟨_, rfl⟩
    rw [← hC] at hmk hmade
    have HC := Lib.hid hmade
    clear hC hmade
    have HG2 := Lib.hid g2; have HG4 := Lib.hid g4
    have hone := g5.one
    have HONE := Lib.hid hone
    clear h hP hrn hx e hri g1 g2 g3 g4 g5 g6 hnnl hns hone
    go_enter Try.func14, Try.ntmps14
    go_wp2_with (first
      | (go_at_call 32; (with_reducible refine (room_any _ _ _ _ _ _ _ g _ _ HK.out.gm).mono ?_); rintro r w2 ⟨rfl, hb⟩; rw [HX.out]; have HK := Lib.hid (HK.out.step hb); clear hb; have b0 := HK.out.b0; have b1 := HK.out.b1; have b2 := HK.out.b2; have r0 := HK.out.r0; have r1 := HK.out.r1; have r2 := HK.out.r2; have hfr := HK.out.f)
      | (at_builtin; refine append_more rfl _ _ 26 43 rfl Try.underlying26 info43 rfl (by decide) _ _ (.slice none 0 0) [] (OwnV.nil (Below.refl _ _)) (Nat.le_refl _) B nn d vs rfl rfl HVL.out (by simp; omega) HG2.out HG4.out (HV.out _ HK.out.bel).2 HONE.out ?_
         rintro v1 w3 ho -
         rw [List.nil_append] at ho
         have HO := Lib.hid ho
         clear ho b0 b1 b2 r0 r1 r2 hfr)
      | (at_builtin; refine append_more rfl _ _ 26 43 rfl Try.underlying26 info43 rfl (by decide) _ _ v1 vs (HO.out.step (Nat.le_refl _) (below_alloc0 (below_alloc0 (Below.refl _ _) _) _)) (Nat.le_refl _) _ 1 1 [.slice (some ⟨w3.heap.size, 0, none⟩) k k] rfl rfl rfl (by rw [← HVL.out]; omega) (Nat.le_refl _) (fun e => by cases e) (cells_at _ _ _ _ (by simp)) (fun v hv => by simp at hv; subst hv; rfl) ?_
         rintro v2 w4 ho2 hkp
         have hn1 := HK.out.not1 HPP.out
         have hsz := HO.out.2.size
         have hnew := (((HC.out w3).to (Q := fun b => v1.ownBlock ≠ some b ∧ Not1 w P b) fun b _ hb => ⟨fun e => by have h1 := (HO.out.1.lt b e).2; have h2 : w3.heap.size ≤ b := hb; omega, hn1 b (Nat.le_trans hsz hb)⟩).kept (Kept.below (below_alloc0 (Below.refl _ _) (.cells #[.slice (some ⟨w3.heap.size, 0, none⟩) k k] 43)))).kept (hkp.imp fun b h => h.1)
         have hrows := (HV.out _ (below_then HK.out.bel ho2.2)).1.app (hnew.to (Q := Not1 w P) fun b _ hb => hb.2)
         obtain ⟨A4, c4, rfl, hra⟩ := ho2.rowsAt hrows hn1
         rw [← HNS.out] at hra ⊢
         rw [HNL.out] at hra ⊢
         have hk4 := HK.out.step ho2.2
         have b0 := hk4.b0
         have b1 := hk4.b1
         have b2 := hk4.b2
         have hfb := hk4.f0
         have HK5 := Lib.hid (hk4.box hra)
         clear hn1 hsz hnew hrows hra hk4 ho2 hkp hmk)
      | (go_at_call 33; (with_reducible refine (push_any _ rn c _ _ _ _ ⟨g.roots, ns, g.most⟩ i _ _ HK5.out.gm HI.out HR1.out HR2.out (HK5.out.not1 HPP.out)).mono ?_); rintro r w5 ⟨A5, rn5, c5, B5, nn5, d5, mo5, rfl, hg5, hb⟩; have hk6 := HK5.out.step hb; have HK6 := Lib.hid hk6; have HG5 := Lib.hid hg5; have r0 := hk6.r0; have r1 := hk6.r1; have r2 := hk6.r2; have hfr := hk6.f; clear hb hk6 hg5 b0 b1 b2 hfb)
      | fail)
    obtain ⟨e0, e1, e2⟩ := put3_cells HK6.out.r0 HK6.out.r1 HK6.out.r2 (.slice A5 rn5 c5) (.slice B5 nn5 d5) (.int .i64 mo5)
    exact bodyPost_ret (v := .tuple #[gV A5 rn5 c5 B5 nn5 d5 mo5, .int .i64 ((nn : Int) + 1), .bool true]) (by simp [results, Try.results14, go_sem, e0, e1, e2]) rfl ⟨A5, rn5, c5, B5, nn5, d5, mo5, rfl, HK6.out.fin HG5.out⟩
end Go.Proofs.Ytjnkcomedcbenaa
