/- The document's own machine, begun, and what it tells; walked. -/
import Derived.Test.YtgnnhjadmepipaaRefWalk
import Derived.Test.YtgnnhjadmepipaaRef
namespace Go.Proofs.Ytgnnhjadmepipaa
open Go.RowKit
set_option linter.unusedVariables false
set_option linter.unusedSimpArgs false

/-- The document's own machine, as a value: its links are a slice. -/
abbrev mV (kd pc hd : Int) (A : Option Addr) (n cap : Nat) (it h li tr : Int) : Value := .agg #[.int .i64 kd, .int .i64 pc, .int .i64 hd, .slice A n cap, .int .u32 it, .int .u64 h, .int .u32 li, .int .i64 tr]
/-- It stands for one over words. -/
abbrev smV (m : Sm) (A : Option Addr) (n cap : Nat) : Value := mV m.kind m.pc m.k.head A n cap m.item m.h m.link m.tries

set_option maxHeartbeats 2000000 in
theorem rpush_any (hd : Int) (A : Option Addr) (n cap : Nat) (x : Int) (w : World) (hx : -9223372036854775808 ≤ x ∧ x ≤ 9223372036854775807) : Calls Try.prog 13 #[kval hd A n cap, .int .i64 x] w fun a w' => a = .returned (mV 1 1 hd A n cap (itemOf x) 0 0 0) ∧ Below w.heap.size w w' := by
  by_cases h1 : x < 0
  · have e : itemOf x = 0 := by unfold itemOf; rw [if_pos (.inl (by omega))]
    have d1 : decide (x < 0) = true := by simpa using h1
    rw [e]; clear e
    go_enter Try.func13, Try.ntmps13
    go_wp2_with (fail)
    exact bodyPost_ret (v := mV 1 1 hd A n cap 0 0 0 0) (by simp [results, Try.results13, go_sem]) rfl ⟨rfl, below_alloc0 (below_alloc0 (Below.refl _ _) _) _⟩
  have d1 : decide (x < 0) = false := by simpa using h1
  by_cases h2 : x > 4294967295
  · have e : itemOf x = 0 := by unfold itemOf; rw [if_pos (.inr (by omega))]
    have d2 : decide (x > 4294967295) = true := by simpa using h2
    rw [e]; clear e
    go_enter Try.func13, Try.ntmps13
    go_wp2_with (fail)
    exact bodyPost_ret (v := mV 1 1 hd A n cap 0 0 0 0) (by simp [results, Try.results13, go_sem]) rfl ⟨rfl, below_alloc0 (below_alloc0 (Below.refl _ _) _) _⟩
  have d2 : decide (x > 4294967295) = false := by simpa using h2
  have e : itemOf x = x := by unfold itemOf; split <;> omega
  rw [e]; clear e
  go_enter Try.func13, Try.ntmps13
  go_wp2_with (fail)
  exact bodyPost_ret (v := mV 1 1 hd A n cap x 0 0 0) (by simp [results, Try.results13, go_sem]) rfl ⟨rfl, below_alloc0 (below_alloc0 (Below.refl _ _) _) _⟩
set_option maxHeartbeats 2000000 in
theorem rpop_any (hd : Int) (A : Option Addr) (n cap : Nat) (w : World) : Calls Try.prog 11 #[kval hd A n cap] w fun a w' => a = .returned (mV 2 1 hd A n cap 0 0 0 0) ∧ Below w.heap.size w w' := by
  go_enter Try.func11, Try.ntmps11
  go_wp2_with (fail)
  exact bodyPost_ret (v := mV 2 1 hd A n cap 0 0 0 0) (by simp [results, Try.results11, go_sem]) rfl ⟨rfl, below_alloc0 (below_alloc0 (Below.refl _ _) _) _⟩
set_option maxHeartbeats 2000000 in
theorem ritem_any (kd pc hd : Int) (A : Option Addr) (n cap : Nat) (it h li tr : Int) (w : World) (hp : 0 ≤ pc) (i0 : 0 ≤ it) (i1 : it ≤ 4294967295) :
    Calls Try.prog 19 #[mV kd pc hd A n cap it h li tr] w fun a w' => a = .returned (.int .i64 (if pc = 0 then it else 0)) ∧ Below w.heap.size w w' := by
  by_cases h1 : pc = 0
  · rw [if_pos h1]
    subst h1
    go_enter Try.func19, Try.ntmps19
    go_wp2_with (fail)
    go_ret
    exact ⟨rfl, below_alloc0 (Below.refl _ _) _⟩
  · rw [if_neg h1]
    have d1 : decide (pc > 0) = true := by simp; omega
    go_enter Try.func19, Try.ntmps19
    go_wp2_with (fail)
    go_ret
    exact ⟨rfl, below_alloc0 (Below.refl _ _) _⟩

set_option maxHeartbeats 2000000 in
theorem rstep0_any (R : Option Addr) (n' capR : Nat) (kd hd : Int) (A : Option Addr) (n cap : Nat) (it h li tr : Int) (w : World) :
    Calls Try.prog 17 #[.slice R n' capR, mV kd 0 hd A n cap it h li tr] w fun a w' => a = .returned (.tuple #[.slice R n' capR, mV kd 0 hd A n cap it h li tr]) ∧ Below w.heap.size w w' := by
  go_enter Try.func17, Try.ntmps17
  go_wp2_with (fail)
  go_region_with (fail)
  go_wp2
  exact bodyPost_ret (v := .tuple #[.slice R n' capR, mV kd 0 hd A n cap it h li tr]) (by simp [results, Try.results17, go_sem]) rfl ⟨rfl, (below_alloc0 (below_alloc0 (Below.refl _ _) _) _).drew⟩

/-- Two blocks that have just been made. -/
theorem below_two (w : World) (o o' : Obj) : Below w.heap.size w ((w.alloc o).alloc o') := below_alloc0 (below_alloc0 (Below.refl _ _) _) _

set_option maxHeartbeats 4000000 in
theorem rstep1_push (R : Option Addr) (n' capR : Nat) (L : List Int) (hd : Int) (A : Option Addr) (n cap : Nat) (it h li tr : Int) (w : World) (hn : n' = L.length) (hR : Reads .u64 w R L) (ww : WW L) (t0 : 0 ≤ tr) (t1 : tr ≤ 1000000000) :
    Calls Try.prog 17 #[.slice R n' capR, mV 1 1 hd A n cap it h li tr] w fun a w' => a = .returned (.tuple #[.slice R n' capR, mV 1 2 hd A n cap it (ldq L hd) (low (ldq L hd)) (tr + 1)]) ∧ Below w.heap.size w w' := by
  obtain ⟨g, hg⟩ : ∃ g, g = ldq L hd := ⟨_, rfl⟩
  have hgr := ww.ldq hd
  rw [← hg] at hgr
  obtain ⟨g0, g1⟩ := hgr
  have hg2 : g = ldv L hd := by rw [hg, ldv_eq]
  rw [← hg]
  obtain ⟨x, hx⟩ : ∃ x, x = low g := ⟨_, rfl⟩
  rw [← hx]
  have hx2 : x = g % 4294967296 := hx
  have HG := Lib.hid hg2; have HX := Lib.hid hx2; have HN := Lib.hid hn; have HR := Lib.hid hR
  clear hg hx hg2 hx2 hn hR ww
  go_enter Try.func17, Try.ntmps17
  go_wp2_with (first
    | (go_at_call 36; (with_reducible refine (rload_any R n' capR L hd _ HN.out (HR.out.below (below_two _ _ _) (Nat.le_refl _))).mono ?_); rintro r w1 ⟨rfl, hw⟩; cases hw; rw [← HG.out])
    | (go_at_call 37; (with_reducible refine (refLow_any g g0 g1 _).mono ?_); rintro r w1 ⟨rfl, hw⟩; cases hw; rw [← HX.out])
    | fail)
  go_region
  go_wp2
  exact bodyPost_ret (v := .tuple #[.slice R n' capR, mV 1 2 hd A n cap it g x (tr + 1)]) (by simp [results, Try.results17, go_sem]) rfl ⟨rfl, (below_two _ _ _).drew⟩
end Go.Proofs.Ytgnnhjadmepipaa
