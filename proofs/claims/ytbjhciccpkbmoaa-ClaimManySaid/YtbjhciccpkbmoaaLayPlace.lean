/- The document's own search for a thing's place, walked. -/
import Derived.Test.YtbjhciccpkbmoaaLayThings
namespace Go.Proofs.Ytbjhciccpkbmoaa.Lay
open Go.RowKit
set_option linter.unusedVariables false

theorem place_spec {s : Sh} {t : Th} (hn : Norm t) {k : Nat} (hk : k < (things s).length) (he : gt (things s) k = t) : plc s t = (k : Int) := by
  rw [← he]; have := seg_all s k hk; rw [this]; omega
theorem place_none {s : Sh} {t : Th} (hn : Norm t) (h : ∀ i, i < (things s).length → gt (things s) i ≠ t) : plc s t = -1 := by
  rcases plc_spec s t hn with ⟨h1, _⟩ | ⟨i, hi, _, h2, _⟩
  · exact h1
  · exact absurd h2 (h i hi)

set_option maxHeartbeats 2000000 in
set_option maxRecDepth 100000 in
theorem place_any (s : Sh) (A : Option Addr) (cap n : Nat) (t : Th) (w : World) (hn : n = (things s).length) (h : ReadsT w A (things s)) (ht : Norm t) (hb : n ≤ 10000) :
    Calls Try.prog 71 #[.slice A n cap, .agg #[.int .i64 t.k, .int .i64 t.a, .int .i64 t.b]] w fun e w' => e = .returned (.int .i64 (plc s t)) ∧ Below w.heap.size w w' := by
  obtain ⟨kx, ax, bx⟩ := t
  obtain ⟨l, hl⟩ : ∃ l, l = things s := ⟨_, rfl⟩
  rw [← hl] at h hn
  have HY : Hid (∀ k, k < l.length → gt l k = ⟨kx, ax, bx⟩ → plc s ⟨kx, ax, bx⟩ = (k : Int)) := Lib.hid (by rw [hl]; exact fun k hk he => place_spec ht hk he)
  have HZ : Hid ((∀ i, i < l.length → gt l i ≠ ⟨kx, ax, bx⟩) → plc s ⟨kx, ax, bx⟩ = -1) := Lib.hid (by rw [hl]; exact place_none ht)
  have HN := Lib.hid hn
  have HR := Lib.hid (h.below (below_alloc0 (Below.refl _ _) (.cells #[.int .i64 kx, .int .i64 ax, .int .i64 bx] 104)))
  have HB0 := Lib.hid (below_alloc0 (Below.refl w.heap.size w) (.cells #[.int .i64 kx, .int .i64 ax, .int .i64 bx] 104))
  have HC : Hid ((w.alloc (.cells #[.int .i64 kx, .int .i64 ax, .int .i64 bx] 104)).cell? ⟨w.heap.size, 0, none⟩ = some (.int .i64 kx) ∧ (w.alloc (.cells #[.int .i64 kx, .int .i64 ax, .int .i64 bx] 104)).cell? ⟨w.heap.size, 1, none⟩ = some (.int .i64 ax) ∧ (w.alloc (.cells #[.int .i64 kx, .int .i64 ax, .int .i64 bx] 104)).cell? ⟨w.heap.size, 2, none⟩ = some (.int .i64 bx) ∧ w.heap.size < (w.alloc (.cells #[.int .i64 kx, .int .i64 ax, .int .i64 bx] 104)).heap.size) :=
    Lib.hid ⟨(World.cell?_alloc_at _ _ _ _ rfl).trans rfl, (World.cell?_alloc_at _ _ _ _ rfl).trans rfl, (World.cell?_alloc_at _ _ _ _ rfl).trans rfl, by simp⟩
  clear h hn ht hl
  obtain ⟨w0, hw0⟩ : ∃ w0 : World, w0 = w.alloc (.cells #[.int .i64 kx, .int .i64 ax, .int .i64 bx] 104) := ⟨_, rfl⟩
  have HW := Lib.hid hw0
  rw [← hw0] at HR HB0 HC
  clear hw0
  show Calls Try.prog 71 #[.slice A n cap, .agg #[.int .i64 kx, .int .i64 ax, .int .i64 bx]] w _
  go_enter Try.func71, Try.ntmps71
  go_wp2_with (fail)
  rw [← HW.out]
  go_loopw [5] (fun i wr => ∃ k : Nat, k ≤ n ∧ i = .int .i64 (k : Int) ∧ (∀ j, j < k → gt l j ≠ ⟨kx, ax, bx⟩) ∧ Below w0.heap.size w0 wr) (fun i _ => n - (intOf i).toNat)
  case atStart => exact ⟨0, Nat.zero_le _, rfl, fun j hj => by omega, Below.refl _ _⟩
  case round =>
    obtain ⟨k, hk, rfl, hg, hB⟩ := hrel
    by_cases hlt : k < n
    · obtain ⟨b, off, rfl, hbl, hcell⟩ := HR.out (by have := HN.out; omega)
      obtain ⟨t0, t1, t2⟩ := hcell k (by have := HN.out; omega)
      have t0 := (hB.cell (p := ⟨b, off + k * 3, none⟩) hbl).trans t0
      have t1 : wr.cell? ⟨b, off + k * 3 + 1, none⟩ = _ := (hB.cell (p := ⟨b, off + (k * 3 + 1), none⟩) hbl).trans t1
      have t2 : wr.cell? ⟨b, off + k * 3 + 2, none⟩ = _ := (hB.cell (p := ⟨b, off + (k * 3 + 2), none⟩) hbl).trans t2
      have s0 := (hB.cell (p := ⟨w.heap.size, 0, none⟩) HC.out.2.2.2).trans HC.out.1
      have s1 := (hB.cell (p := ⟨w.heap.size, 1, none⟩) HC.out.2.2.2).trans HC.out.2.1
      have s2 := (hB.cell (p := ⟨w.heap.size, 2, none⟩) HC.out.2.2.2).trans HC.out.2.2.1
      obtain ⟨u, hu⟩ : ∃ u, u = gt l k := ⟨_, rfl⟩
      have hg2 : u ≠ ⟨kx, ax, bx⟩ → ∀ j, j < k + 1 → gt l j ≠ ⟨kx, ax, bx⟩ := fun hne j hj => by
        by_cases e : j = k
        · subst e; rw [← hu]; exact hne
        · exact hg j (by omega)
      have hyes : u = ⟨kx, ax, bx⟩ → plc s ⟨kx, ax, bx⟩ = (k : Int) := fun e => HY.out k (by have := HN.out; omega) (by rw [← hu]; exact e)
      rw [← hu] at t0 t1 t2
      obtain ⟨x, y, z⟩ := u
      simp only at t0 t1 t2
      have HG2 := Lib.hid hg2; have HYES := Lib.hid hyes; have HBB := Lib.hid hB
      have hk0 : (0 : Int) ≤ (k : Int) := by omega
      have hk1 : (k : Int) < (n : Int) := by omega
      clear hg hB hg2 hyes hu hcell hbl
      by_cases h1 : x = kx
      · by_cases h2 : y = ax
        · by_cases h3 : z = bx
          · have HP := Lib.hid (HYES.out (by rw [h1, h2, h3]))
            have e1 : (x = kx) = True := eq_true h1
            have e2 : (y = ax) = True := eq_true h2
            have e3 : (z = bx) = True := eq_true h3
            have f1 : (x == kx) = true := beq_iff_eq.2 h1
            have f2 : (y == ax) = true := beq_iff_eq.2 h2
            have f3 : (z == bx) = true := beq_iff_eq.2 h3
            clear h1 h2 h3
            go_wp2_with (fail)
            go_quiet (fail)
            go_wp2_with (fail)
            go_ret
            exact ⟨ret_int HP.out.symm, (HB0.out.trans (HBB.out.mono HB0.out.size)).trans ((below_drewN (Below.refl _ _) _).mono (Nat.le_trans HB0.out.size HBB.out.size))⟩
          · have HP := Lib.hid (HG2.out (fun e => h3 (by injection e)))
            have e1 : (x = kx) = True := eq_true h1
            have e2 : (y = ax) = True := eq_true h2
            have f1 : (x == kx) = true := beq_iff_eq.2 h1
            have f2 : (y == ax) = true := beq_iff_eq.2 h2
            have f3 : (z == bx) = false := beq_eq_false_iff_ne.2 h3
            clear h1 h2
            go_wp2_with (fail)
            go_quiet (fail)
            go_wp2_with (fail)
            go_roundw
            case rel => exact ⟨k + 1, by omega, by go_num, HP.out, below_drewN HBB.out _⟩
            case measure => simp [intOf]; omega
        · have HP := Lib.hid (HG2.out (fun e => h2 (by injection e)))
          have e1 : (x = kx) = True := eq_true h1
          have f1 : (x == kx) = true := beq_iff_eq.2 h1
          have f2 : (y == ax) = false := beq_eq_false_iff_ne.2 h2
          clear h1
          go_wp2_with (fail)
          go_quiet (fail)
          go_wp2_with (fail)
          go_roundw
          case rel => exact ⟨k + 1, by omega, by go_num, HP.out, below_drewN HBB.out _⟩
          case measure => simp [intOf]; omega
      · have HP := Lib.hid (HG2.out (fun e => h1 (by injection e)))
        have f1 : (x == kx) = false := beq_eq_false_iff_ne.2 h1
        go_wp2_with (fail)
        go_quiet (fail)
        go_wp2_with (fail)
        go_roundw
        case rel => exact ⟨k + 1, by omega, by go_num, HP.out, below_drewN HBB.out _⟩
        case measure => simp [intOf]; omega
    · obtain hkn : k = n := by omega
      have HP := Lib.hid (HZ.out (fun i hi => hg i (by have := HN.out; omega)))
      have HBB := Lib.hid hB
      clear hg hB
      go_wp2_with (fail)
      go_ret
      exact ⟨ret_int HP.out.symm, HB0.out.trans (HBB.out.mono HB0.out.size)⟩
end Go.Proofs.Ytbjhciccpkbmoaa.Lay
