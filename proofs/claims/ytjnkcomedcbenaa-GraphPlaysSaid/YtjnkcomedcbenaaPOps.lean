/- The program's graph: Dup, Read and Write, walked. -/
import Derived.Test.YtjnkcomedcbenaaPPush
namespace Go.Proofs.Ytjnkcomedcbenaa
open Go.RowKit
set_option linter.unusedVariables false

section
variable {w w1 w' : World} {S R : Nat} {t : Nat → Tag} {rv sv : List Value} {N : Value} {g g' : Gr}
theorem takes_b (h : PM w S R t rv sv N g) (m : Int) {b : Bool} (e : gRoom g m = b) : Calls Try.prog 46 #[ptr S, .int .i64 m] w fun e w' => e = .returned (.bool b) ∧ Below w.heap.size w w' := by
  rw [← e]; exact takes_any h m
theorem rootP_x (h : PM w S R t rv sv N g) (m a : Int) {x : Int} (hx : x = gRoot g m a) (h0 : 0 ≤ gRoot g m a) : Calls Try.prog 45 #[ptr S, .int .i64 m, .int .i64 a] w fun e w' => e = .returned (.tuple #[.int .i64 x, .bool true]) ∧ w = w' := by
  rw [hx]; exact rootP_yes h m a h0
theorem room_row (hk : Ok g) (hmo : g.most ≤ 1000) {m : Int} (hr : gRoom g m = true) : ∃ i : Nat, m = (i : Int) ∧ i < g.roots.length ∧ (row g.roots i).length ≤ 1000 := by
  have h := room_in hr
  refine ⟨m.toNat, by omega, h.2.1, ?_⟩
  omega

set_option maxHeartbeats 1600000 in
theorem dupP (h : PM w S R t rv sv N g) (hk : Ok g) (hmo : g.most ≤ 1000) (m a : Int) : Calls Try.prog 28 #[ptr S, .int .i64 m, .int .i64 a] w (SomeP S R t (gDup g m a).1 (.bool (gDup g m a).2) w) := by
  by_cases h0 : 0 ≤ gRoot g m a
  · obtain ⟨x, hx⟩ : ∃ x, x = gRoot g m a := ⟨_, rfl⟩
    cases hr : gRoom g m
    · have e : gDup g m a = (g, false) := by unfold gDup; rw [hr]; rfl
      rw [e]
      have H := Lib.hid h; have HR := Lib.hid hr; have HX := Lib.hid hx; have H0 := Lib.hid h0
      clear h hr hx h0 e hk hmo
      go_enter Try.func28, Try.ntmps28
      go_wp2_with (first
        | (go_at_call 45; (with_reducible refine (rootP_x H.out m a HX.out H0.out).mono ?_); rintro r w1 ⟨rfl, rfl⟩)
        | (go_at_call 46; (with_reducible refine (takes_b H.out m HR.out).mono ?_); rintro r w1 ⟨rfl, hb⟩; have HB := Lib.hid hb; clear hb)
        | fail)
      go_ret
      exact someP_same H.out HB.out
    · have e : gDup g m a = (gPush g m (gRoot g m a), true) := by unfold gDup; rw [hr, decide_eq_true h0]; rfl
      rw [e, ← hx]
      obtain ⟨i, rfl, hil, hlen⟩ := room_row hk hmo hr
      have H := Lib.hid h; have HR := Lib.hid hr; have HX := Lib.hid hx; have H0 := Lib.hid h0
      have HI := Lib.hid hil; have HL := Lib.hid hlen
      clear h hr hx h0 e hk hmo hil hlen
      go_enter Try.func28, Try.ntmps28
      go_wp2_with (first
        | (go_at_call 45; (with_reducible refine (rootP_x H.out (i : Int) a HX.out H0.out).mono ?_); rintro r w1 ⟨rfl, rfl⟩)
        | (go_at_call 46; (with_reducible refine (takes_b H.out (i : Int) HR.out).mono ?_); rintro r w1 ⟨rfl, hb⟩; have HB := Lib.hid hb; have H1 := Lib.hid (H.out.below hb); clear hb)
        | (go_at_call 47; (with_reducible refine (pushP H1.out i HI.out HL.out x).mono ?_); rintro r w2 hq; have HQ := Lib.hid hq; obtain ⟨_, _, rfl, -⟩ := hq)
        | fail)
      go_ret
      exact someP_pre HB.out (HQ.out.some rfl)
  · have e : gDup g m a = (g, false) := by unfold gDup; rw [decide_eq_false h0, Bool.and_false]; rfl
    rw [e]
    have H := Lib.hid h; have H0 := Lib.hid (show gRoot g m a < 0 by omega); have HK := Lib.hid hk
    clear h h0 e hk hmo
    go_enter Try.func28, Try.ntmps28
    go_wp2_with (first
      | (go_at_call 45; (with_reducible refine (rootP_no H.out HK.out m a H0.out).mono ?_); rintro r w1 ⟨rfl, rfl⟩)
      | fail)
    go_ret
    exact someP_same H.out (Below.refl _ _)

/-- A slot's cell. -/
theorem slot_cell (h : PM w S R t rv sv N g) (hk : Ok g) {m a i : Int} (hh : gHas g m a i = true) {b : Nat} (hb : rvAt sv g.nodes.length (gRoot g m a - 1) = .slice (some ⟨b, 0, none⟩) (row g.nodes (gRoot g m a - 1).toNat).length (row g.nodes (gRoot g m a - 1).toNat).length) :
    t b = .node (gRoot g m a - 1).toNat ∧ w.heap[b]? = some (.cells ((row g.nodes (gRoot g m a - 1).toNat).map (Value.int .i64)).toArray 3 (0, 0)) ∧ w.cell? ⟨b, i.toNat, none⟩ = some (.int .i64 (gSlot g m a i)) := by
  obtain ⟨b', h1, h2, h3⟩ := slot_at h hk hh
  rw [hb] at h1
  have : b' = b := by injection h1 with h1; cases h1; rfl
  subst this
  refine ⟨h2, h3, ?_⟩
  have hi := has_in hk hh
  rw [cell_of h3]
  simpa [gSlot] using num_get _ _ hi.2.2.2
theorem gPush_slot (g : Gr) (i : Nat) (x : Int) (v : Nat) : row (gPush g i x).nodes v = row g.nodes v := rfl

theorem slot_push (hk : Ok g) {m a i : Int} (hh : gHas g m a i = true) {b : Nat} (hb : rvAt sv g.nodes.length (gRoot g m a - 1) = .slice (some ⟨b, 0, none⟩) (row g.nodes (gRoot g m a - 1).toNat).length (row g.nodes (gRoot g m a - 1).toNat).length)
    (h1 : PM w1 S R t rv sv N g) {t2 : Nat → Tag} {rv2 : List Value} {k : Nat} {x : Int} (hp : PM w' S R t2 rv2 sv N (gPush g k x)) : w'.cell? ⟨b, i.toNat, none⟩ = some (.int .i64 (gSlot g m a i)) := by
  have hi := has_in hk hh
  obtain ⟨b', e1, e2, e3, _⟩ := hp.slots (gRoot g m a - 1).toNat hi.2.1
  unfold rvAt at hb
  rw [if_pos (isIn_iff.2 (by omega))] at hb
  have hb' : sv.getD (gRoot g m a - 1).toNat undef = .slice (some ⟨b', 0, none⟩) (row g.nodes (gRoot g m a - 1).toNat).length (row g.nodes (gRoot g m a - 1).toNat).length := e1
  rw [hb] at hb'
  have : b' = b := by injection hb' with hb'; cases hb'; rfl
  subst this
  rw [cell_of e3]
  simpa [gSlot, gPush] using num_get _ _ hi.2.2.2
set_option maxHeartbeats 1600000 in
theorem readP (h : PM w S R t rv sv N g) (hk : Ok g) (hmo : g.most ≤ 1000) (hnn : g.nodes.length ≤ 1000) (m a i : Int) : Calls Try.prog 27 #[ptr S, .int .i64 m, .int .i64 a, .int .i64 i] w (SomeP S R t (gRead g m a i).1 (.tuple #[.int .i64 (gRead g m a i).2.1, .bool (gRead g m a i).2.2]) w) := by
  cases hh : gHas g m a i
  · have e : gRead g m a i = (g, 0, false) := by unfold gRead; rw [hh, Bool.and_false]; rfl
    rw [e]
    have H := Lib.hid h; have HH := Lib.hid hh; have HK := Lib.hid hk; have HN := Lib.hid hnn
    clear h hh hk hnn hmo e
    go_enter Try.func27, Try.ntmps27
    go_wp2_with (first
      | (go_at_call 44; (with_reducible refine (slotP_no H.out HK.out HN.out m a i HH.out).mono ?_); rintro r w1 ⟨rfl, rfl⟩)
      | fail)
    go_ret2
    exact someP_same H.out (Below.refl _ _)
  · obtain ⟨b, hb, -, -⟩ := slot_at h hk hh
    cases hr : gRoom g m
    · have e : gRead g m a i = (g, 0, false) := by unfold gRead; rw [hr]; rfl
      rw [e]
      have H := Lib.hid h; have HH := Lib.hid hh; have HK := Lib.hid hk; have HN := Lib.hid hnn; have HR := Lib.hid hr; have HB := Lib.hid hb
      clear h hh hk hnn hmo e hr hb
      go_enter Try.func27, Try.ntmps27
      go_wp2_with (first
        | (go_at_call 44; (with_reducible refine (slotP_yes H.out HK.out HN.out m a i HH.out HB.out).mono ?_); rintro r w1 ⟨rfl, rfl⟩)
        | (go_at_call 46; (with_reducible refine (takes_b H.out m HR.out).mono ?_); rintro r w1 ⟨rfl, hb⟩; have HBB := Lib.hid hb; clear hb)
        | fail)
      go_ret2
      exact someP_same H.out HBB.out
    · obtain ⟨x, hx⟩ : ∃ x, x = gSlot g m a i := ⟨_, rfl⟩
      have e : gRead g m a i = (gPush g m x, x, true) := by unfold gRead; rw [hr, hh, hx]; rfl
      rw [e]
      obtain ⟨k, rfl, hil, hlen⟩ := room_row hk hmo hr
      obtain ⟨j, hj⟩ : ∃ j, j = i.toNat := ⟨_, rfl⟩
      have H := Lib.hid h; have HH := Lib.hid hh; have HK := Lib.hid hk; have HN := Lib.hid hnn; have HR := Lib.hid hr; have HB := Lib.hid hb
      have HI := Lib.hid hil; have HL := Lib.hid hlen; have HX := Lib.hid hx; have HJ := Lib.hid hj
      clear h hh hk hnn hmo e hr hb hil hlen hx hj
      go_enter Try.func27, Try.ntmps27
      go_wp2_with (first
        | (go_at_call 44; (with_reducible refine (slotP_yes H.out HK.out HN.out (k : Int) a i HH.out HB.out).mono ?_); rintro r w1 ⟨rfl, rfl⟩; rw [← HJ.out])
        | (go_at_call 46; (with_reducible refine (takes_b H.out (k : Int) HR.out).mono ?_); rintro r w1 ⟨rfl, hb⟩; have HBB := Lib.hid hb; have H1 := Lib.hid (H.out.below hb); clear hb; have hc := (slot_cell H1.out HK.out HH.out HB.out).2.2; rw [← HJ.out, ← HX.out] at hc)
        | (go_at_call 47; (with_reducible refine (pushP H1.out k HI.out HL.out x).mono ?_); rintro r w2 hq; have HQ := Lib.hid hq; obtain ⟨t2, rv2, rfl, hp2, hu2, hold2, -⟩ := hq; have hc2 := slot_push HK.out HH.out HB.out H1.out hp2; rw [← HJ.out, ← HX.out] at hc2; clear hp2 hu2 hold2)
        | fail)
      go_ret2
      exact someP_pre HBB.out (HQ.out.some rfl)
end
end Go.Proofs.Ytjnkcomedcbenaa
