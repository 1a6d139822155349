/- The program's graph: Write, walked. -/
import Derived.Test.YtjnkcomedcbenaaPOps
namespace Go.Proofs.Ytjnkcomedcbenaa
open Go.RowKit
set_option linter.unusedVariables false

section
variable {w w1 w' : World} {S R : Nat} {t : Nat → Tag} {rv sv : List Value} {N : Value} {g g' : Gr}
/-- One slot changed. -/
theorem PM.upN (h : PM w S R t rv sv N g) {v b j : Nat} (hv : v < g.nodes.length) (hj : j < (row g.nodes v).length) (tb : t b = .node v) (hb : w.heap[b]? = some (.cells ((row g.nodes v).map (Value.int .i64)).toArray 3 (0, 0))) (hsv : sv.getD v undef = .slice (some ⟨b, 0, none⟩) (row g.nodes v).length (row g.nodes v).length) (x : Int) :
    PM (w.setCell ⟨b, j, none⟩ (.int .i64 x)) S R t rv sv N ⟨g.roots, g.nodes.set v ((row g.nodes v).set j x), g.most⟩ ∧ UpdF (fun k => t k ≠ .out) w (w.setCell ⟨b, j, none⟩ (.int .i64 x)) := by
  have hne : ∀ k, k ≠ b → (w.setCell ⟨b, j, none⟩ (.int .i64 x)).heap[k]? = w.heap[k]? := fun k hk => heap_setCell_other w ⟨b, j, none⟩ k _ hk
  have hsz : (w.setCell ⟨b, j, none⟩ (.int .i64 x)).heap.size = w.heap.size := by simp
  have hbt : ∀ k, t k ≠ .node v → (w.setCell ⟨b, j, none⟩ (.int .i64 x)).heap[k]? = w.heap[k]? := fun k hk => hne k fun e => hk (e ▸ tb)
  have hl : (g.nodes.set v ((row g.nodes v).set j x)).length = g.nodes.length := by simp
  refine ⟨⟨fun k hk => by rw [hsz]; exact h.low k hk, h.tS, h.tR, h.tN, (hbt S (by rw [h.tS]; simp)).trans h.hS, (hbt R (by rw [h.tR]; simp)).trans h.hR, h.rl, ⟨by rw [h.hN.1, hl], ?_⟩, fun m hm => (h.lists m hm).kept fun k hk ht => ⟨hbt k (by rcases ht with ht | ht <;> rw [ht] <;> simp), rfl⟩, fun v2 hv2 => ?_⟩, ⟨rfl, rfl, rfl, by rw [hsz]; exact Nat.le_refl _, fun k hk hn => hne k fun e => hn (by rw [e, tb]; simp)⟩⟩
  · rw [hl]
    rcases h.hN.2 with h2 | ⟨b2, cap, cur, rfl, h1, h2, h3⟩
    · exact .inl h2
    · exact .inr ⟨b2, cap, cur, rfl, h1, (hbt b2 (by rw [h.tN b2 rfl]; simp)).trans h2, h3⟩
  · rw [hl] at hv2
    simp only
    rw [row_set]
    by_cases e : v = v2
    · subst e
      rw [if_pos ⟨rfl, hv⟩]
      obtain ⟨b', e1, e2, e3, e4⟩ := h.slots v hv
      refine ⟨b, by rw [List.length_set]; exact hsv, tb, ?_, by rw [List.length_set]; exact e4⟩
      rw [heap_setCell_same _ _ _ _ _ _ hb, List.map_set]
      simp
    · rw [if_neg (fun h => e h.1)]
      exact (h.slots v2 hv2).kept fun k hk ht => ⟨hbt k (by rw [ht]; intro e2; cases e2; exact e rfl), rfl⟩

set_option maxHeartbeats 1600000 in
theorem writeP (h : PM w S R t rv sv N g) (hk : Ok g) (hnn : g.nodes.length ≤ 1000) (m a i b : Int) : Calls Try.prog 26 #[ptr S, .int .i64 m, .int .i64 a, .int .i64 i, .int .i64 b] w (SomeP S R t (gWrite g m a i b).1 (.bool (gWrite g m a i b).2) w) := by
  by_cases h0 : 0 ≤ gRoot g m b
  · obtain ⟨x, hx⟩ : ∃ x, x = gRoot g m b := ⟨_, rfl⟩
    cases hh : gHas g m a i
    · have e : gWrite g m a i b = (g, false) := by unfold gWrite; rw [hh]; rfl
      rw [e]
      have H := Lib.hid h; have HH := Lib.hid hh; have HK := Lib.hid hk; have HN := Lib.hid hnn; have HX := Lib.hid hx; have H0 := Lib.hid h0
      clear h hh hk hnn e hx h0
      go_enter Try.func26, Try.ntmps26
      go_wp2_with (first
        | (go_at_call 44; (with_reducible refine (slotP_no H.out HK.out HN.out m a i HH.out).mono ?_); rintro r w1 ⟨rfl, rfl⟩)
        | (go_at_call 45; (with_reducible refine (rootP_x H.out m b HX.out H0.out).mono ?_); rintro r w1 ⟨rfl, rfl⟩)
        | fail)
      go_ret
      exact someP_same H.out (Below.refl _ _)
    · have e : gWrite g m a i b = (⟨g.roots, g.nodes.set (gRoot g m a - 1).toNat ((row g.nodes (gRoot g m a - 1).toNat).set i.toNat x), g.most⟩, true) := by unfold gWrite; rw [hh, decide_eq_true h0, hx]; rfl
      rw [e]
      obtain ⟨B, hb, -, -⟩ := slot_at h hk hh
      obtain ⟨tb, hB, hc⟩ := slot_cell h hk hh hb
      have hi := has_in hk hh
      have hsv := hb
      unfold rvAt at hsv
      rw [if_pos (isIn_iff.2 (by omega))] at hsv
      have hup := h.upN hi.2.1 hi.2.2.2 tb hB hsv x
      have hf := frozen_of_row w B i.toNat _ _ hB
      obtain ⟨j, hj⟩ : ∃ j, j = i.toNat := ⟨_, rfl⟩
      rw [← hj] at hup hf hc ⊢
      have H := Lib.hid h; have HH := Lib.hid hh; have HK := Lib.hid hk; have HN := Lib.hid hnn; have HX := Lib.hid hx; have H0 := Lib.hid h0; have HB := Lib.hid hb; have HJ := Lib.hid hj; have HU := Lib.hid hup
      clear h hh hk hnn e hx h0 hb tb hB hi hsv hup hj
      go_enter Try.func26, Try.ntmps26
      go_wp2_with (first
        | (go_at_call 44; (with_reducible refine (slotP_yes H.out HK.out HN.out m a i HH.out HB.out).mono ?_); rintro r w1 ⟨rfl, rfl⟩; rw [← HJ.out])
        | (go_at_call 45; (with_reducible refine (rootP_x H.out m b HX.out H0.out).mono ?_); rintro r w1 ⟨rfl, rfl⟩)
        | fail)
      go_ret
      exact ⟨t, rv, sv, N, rfl, HU.out.1, HU.out.2, fun _ _ => rfl, fun k hk => .inl hk⟩
  · have e : gWrite g m a i b = (g, false) := by unfold gWrite; rw [decide_eq_false h0, Bool.and_false]; rfl
    rw [e]
    cases hh : gHas g m a i
    · have H := Lib.hid h; have HH := Lib.hid hh; have HK := Lib.hid hk; have HN := Lib.hid hnn; have H0 := Lib.hid (show gRoot g m b < 0 by omega)
      clear h hh hk hnn e h0
      go_enter Try.func26, Try.ntmps26
      go_wp2_with (first
        | (go_at_call 44; (with_reducible refine (slotP_no H.out HK.out HN.out m a i HH.out).mono ?_); rintro r w1 ⟨rfl, rfl⟩)
        | (go_at_call 45; (with_reducible refine (rootP_no H.out HK.out m b H0.out).mono ?_); rintro r w1 ⟨rfl, rfl⟩)
        | fail)
      go_ret
      exact someP_same H.out (Below.refl _ _)
    · obtain ⟨B, hb, -, -⟩ := slot_at h hk hh
      have H := Lib.hid h; have HH := Lib.hid hh; have HK := Lib.hid hk; have HN := Lib.hid hnn; have H0 := Lib.hid (show gRoot g m b < 0 by omega); have HB := Lib.hid hb
      clear h hh hk hnn e h0 hb
      go_enter Try.func26, Try.ntmps26
      go_wp2_with (first
        | (go_at_call 44; (with_reducible refine (slotP_yes H.out HK.out HN.out m a i HH.out HB.out).mono ?_); rintro r w1 ⟨rfl, rfl⟩)
        | (go_at_call 45; (with_reducible refine (rootP_no H.out HK.out m b H0.out).mono ?_); rintro r w1 ⟨rfl, rfl⟩)
        | fail)
      go_ret
      exact someP_same H.out (Below.refl _ _)
end
end Go.Proofs.Ytjnkcomedcbenaa
