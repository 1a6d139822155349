/- A line that is laid of periods: the program's lined, walked. -/
import Derived.Test.YtmeiohmdiklepaaTie
namespace Go.Proofs.Ytmeiohmdiklepaa
open Go.RowKit
set_option linter.unusedVariables false
theorem info43 : (Try.prog.info? 43).map (fun i => (i.zero, i.size, i.bytes)) = some (some (.agg #[.int .i64 0, .int .i64 0, .int .i64 0]), 3, 24) := by kernel_rfl

theorem made_nil (n : Nat) : (madeCells (Value.agg #[.int .i64 0, .int .i64 0, .int .i64 0]).cells (n * 3)).toList = List.replicate (n * 3) (.int .i64 0) := by
  apply List.ext_getElem?
  intro j
  by_cases hj : j < n * 3
  · have : j % 3 = 0 ∨ j % 3 = 1 ∨ j % 3 = 2 := by omega
    rcases this with e | e | e <;> simp [madeCells, hj, Value.cells, e]
  · simp [madeCells, hj]

/-- A line that has been laid, of these periods, none of them due yet. -/
def SomeLined (ps : List Int) (w : World) (e : Ending) (w' : World) : Prop :=
  ∃ l, e = .returned (.pointer (some ⟨w.heap.size + 1, 0, none⟩)) ∧ Line w.heap.size w' l ∧ Below w.heap.size w w' ∧ l.Perm (tie ps (dueL ps 0)) ∧ HeapFrom 0 l

theorem bnd_is (p : Int) : imin (imax p 1) 1000 = bnd p := by unfold imin imax bnd; omega

set_option maxHeartbeats 1000000 in
theorem lined_any (A : Option Addr) (cap : Nat) (ps : List Int) (w : World) (h : Reads w A ps) (h1 : 0 < ps.length) (h2 : ps.length ≤ 100) :
    Calls Try.prog 17 #[.slice A ps.length cap] w (SomeLined ps w) := by
  obtain ⟨n, hn⟩ : ∃ n, n = ps.length := ⟨_, rfl⟩
  rw [← hn] at h1 h2 ⊢
  have HN := Lib.hid hn; clear hn
  have hc0 : ∀ j, j < n → ∃ b off, A = some ⟨b, off, none⟩ ∧ b < w.heap.size ∧ w.cell? ⟨b, off + j, none⟩ = some (.int .i64 (ps.getD j 0)) := fun j hj => by
    obtain ⟨b, off, e, h1, h2⟩ := h (by have := HN.out; omega)
    exact ⟨b, off, e, h1, h2 j (by have := HN.out; omega)⟩
  have HR := Lib.hid hc0; clear h hc0
  obtain ⟨i0, hi, hz0, hz1, hz2⟩ := info_parts info43
  have hmk : (Instr.makeSlice 39 (.int .i64 (n : Int)) (.int .i64 (n : Int))).run Try.prog w = .ok (.slice (some ⟨w.heap.size, 0, none⟩) n n) (w.alloc (.cells (madeCells (Value.agg #[.int .i64 0, .int .i64 0, .int .i64 0]).cells (n * 3)) 43)) := by
    have := run_make w 39 43 i0 (.agg #[.int .i64 0, .int .i64 0, .int .i64 0]) Try.underlying39 hi hz0 .i64 .i64 n n (by omega) (Int.le_refl _) (by rw [hz2]; omega) (by omega)
    simpa [hz1] using this
  have hsz : (madeCells (Value.agg #[.int .i64 0, .int .i64 0, .int .i64 0]).cells (n * 3)).toList = List.replicate (n * 3) (.int .i64 0) := made_nil n
  generalize madeCells (Value.agg #[.int .i64 0, .int .i64 0, .int .i64 0]).cells (n * 3) = cs at hmk hsz
  have HZ := Lib.hid hsz
  clear hsz hi hz0 hz1 hz2
  go_enter Try.func17, Try.ntmps17
  go_wp2
  clear hmk
  have hw0 : Line w.heap.size ((w.alloc (.cells cs 43)).alloc (.cells #[.slice (some ⟨w.heap.size, 0, none⟩) n n, .func (.func 20) #[] #[]] 45)) (part ps 0) ∧ Below w.heap.size w ((w.alloc (.cells cs 43)).alloc (.cells #[.slice (some ⟨w.heap.size, 0, none⟩) n n, .func (.func 20) #[] #[]] 45)) := by
    have hcs : cs.size = n * 3 := by have := congrArg List.length HZ.out; simpa using this
    have hrow := (World.ownsRow_lit (base := w.heap.size) (e := 43) (size := 3) w cs n (Nat.le_refl _) (by unfold maxLen; omega) hcs).alloc (.cells #[.slice (some ⟨w.heap.size, 0, none⟩) n n, .func (.func 20) #[] #[]] 45)
    refine ⟨⟨?_, by simp, ?_, ?_⟩, by go_grown⟩
    · rw [part_len, flat_nil, ← HN.out]; rw [← HZ.out]; exact hrow
    · rw [part_len, ← HN.out, World.cell?_alloc_at _ _ _ _ (by simp)]; rfl
    · rw [World.cell?_alloc_at _ _ _ _ (by simp)]; rfl
  generalize (w.alloc (.cells cs 43)).alloc (.cells #[.slice (some ⟨w.heap.size, 0, none⟩) n n, .func (.func 20) #[] #[]] 45) = w0 at hw0 ⊢
  clear HZ
  go_loopw [14] (fun v wr => ∃ k : Nat, v = .int .i64 k ∧ k ≤ n ∧ Line w.heap.size wr (part ps k) ∧ Below w.heap.size w wr) (fun v _ => n - (intOf v).toNat)
  case atStart => exact ⟨0, rfl, Nat.zero_le _, hw0⟩
  case round =>
    clear hw0
    obtain ⟨k, rfl, hk, hL, hB⟩ := hrel
    by_cases hkn : k < n
    · obtain ⟨b, off, rfl, hlt, hc⟩ := HR.out k hkn
      have hcell := (hB.cell (p := ⟨b, off + k, none⟩) hlt).trans hc
      have hpl := part_len ps k
      obtain ⟨x0, x1, x2⟩ := hL.cell (i := k) (by rw [hpl]; have := HN.out; omega)
      have f0 := hL.row.frozenAt (k * 3)
      have f1 := hL.row.frozenAt (k * 3 + 1)
      have f2 := hL.row.frozenAt (k * 3 + 2)
      have c0 := hL.c0
      rw [hpl, ← HN.out] at c0
      have hstep := hL.set (i := k) (by rw [hpl]; have := HN.out; omega) (one ps (dueL ps 0) k)
      rw [part_step ps k (by have := HN.out; omega)] at hstep
      have hd : (one ps (dueL ps 0) k).due = bnd (ps.getD k 0) := due_zero ps k (by have := HN.out; omega)
      have hp : (one ps (dueL ps 0) k).per = bnd (ps.getD k 0) := rfl
      have hw : (one ps (dueL ps 0) k).who = k := rfl
      rw [hd, hp, hw] at hstep
      have hB2 := (((hB.setCell (p := ⟨w.heap.size, k * 3, none⟩) (Nat.le_refl _) (.int .i64 k)).setCell (p := ⟨w.heap.size, k * 3 + 1, none⟩) (Nat.le_refl _) (.int .i64 (bnd (ps.getD k 0))))).setCell (p := ⟨w.heap.size, k * 3 + 2, none⟩) (Nat.le_refl _) (.int .i64 (bnd (ps.getD k 0)))
      obtain ⟨x, hx⟩ : ∃ x, x = ps.getD k 0 := ⟨_, rfl⟩
      rw [← hx] at hcell hstep hB2
      rw [← bnd_is] at hstep hB2
      have HS := Lib.hid (And.intro hstep.1 hB2)
      clear hx hc hstep hB2 hd hp hw hpl hL hB
      generalize (at_ (part ps k) k) = y at x0 x1 x2
      obtain ⟨ya, yb, yc⟩ := y
      go_wp2
      go_roundw
      case rel => exact ⟨k + 1, by go_num, by omega, HS.out⟩
      case measure => simp [intOf]; omega
    · obtain rfl : k = n := by omega
      have hL2 : Line w.heap.size wr (tie ps (dueL ps 0)) := by rw [← part_done ps, ← HN.out]; exact hL
      have htl : (tie ps (dueL ps 0)).length = k := by rw [tie_len]; exact HN.out.symm
      have HT := Lib.hid htl
      clear hL htl
      go_wp2_with (go_at_call 21; (with_reducible refine (init_any _ _ (tie ps (dueL ps 0)) hL2 (by have := HT.out; omega)).mono ?_); rintro e w3 ⟨rfl, hS⟩; have HS := Lib.hid hS; clear hS)
      go_ret
      obtain ⟨l, r1, r2, r3, r4⟩ := HS.out
      exact ⟨l, rfl, r1, hB.grown r2 hB.size (fun k hk => by cases hk; exact Nat.le_refl _), r3, r4⟩
end Go.Proofs.Ytmeiohmdiklepaa
