/- Where links stand: a closure over a list of places; what catches its panics. -/
import Derived.Test.YtgnnhjadmepipaaTwo
import Derived.Test.YtgnnhjadmepipaaWords
import Derived.Test.YtgnnhjadmepipaaStMore
import Derived.Defers
import Derived.Recover
import Derived.Laws.EntriesVeiled
namespace Go.Proofs.Ytgnnhjadmepipaa
open Go.RowKit
set_option linter.unusedVariables false

/-- A list of places behind a box. -/
def Lk (w : World) (Bx Ab : Nat) (zs : List Int) : Prop :=
  ∃ A cap, w.heap[Bx]? = some (.cells #[.slice A zs.length cap] 23 (0, 0)) ∧ Ab < w.heap.size ∧ zs.length ≤ 1000000 ∧
    (0 < zs.length → ∃ off, A = some ⟨Ab, off, none⟩ ∧ ∀ j, j < zs.length → w.cell? ⟨Ab, off + j, none⟩ = some (.int .i64 (zs.getD j 0)))
theorem Lk.lt {w : World} {Bx Ab : Nat} {zs : List Int} (h : Lk w Bx Ab zs) : Bx < w.heap.size ∧ Ab < w.heap.size := by
  obtain ⟨A, cap, h, h2, _⟩ := h; exact ⟨(Array.getElem?_eq_some_iff.1 h).1, h2⟩
theorem Lk.keep {w w' : World} {Bx Ab : Nat} {zs : List Int} (h : Lk w Bx Ab zs) (hs : w.heap.size ≤ w'.heap.size) (h1 : w'.heap[Bx]? = w.heap[Bx]?) (h2 : w'.heap[Ab]? = w.heap[Ab]?) : Lk w' Bx Ab zs := by
  obtain ⟨A, cap, h, hl, hz, hc⟩ := h
  refine ⟨A, cap, h1.trans h, by omega, hz, fun h0 => ?_⟩
  obtain ⟨off, e, hc⟩ := hc h0
  exact ⟨off, e, fun j hj => (World.cell?_of_block (w := w) (a := ⟨Ab, off + j, none⟩) h2).trans (hc j hj)⟩
theorem Lk.below {w w' : World} {Bx Ab : Nat} {zs : List Int} (h : Lk w Bx Ab zs) (hb : Below w.heap.size w w') : Lk w' Bx Ab zs :=
  h.keep hb.size (hb.block Bx h.lt.1) (hb.block Ab h.lt.2)

abbrev lkV (Bx : Nat) : Value := .func (.func 31) #[] #[ptr Bx]

set_option maxHeartbeats 1000000 in
theorem link_any {Bx Ab : Nat} {zs : List Int} (x : Int) (w : World) (h : Lk w Bx Ab zs) (hx : -1000000000000 ≤ x ∧ x ≤ 1000000000000) :
    Calls Try.prog 31 #[.int .i64 x, ptr Bx] w fun e w' => e = .returned (.int .i64 (atOf zs x)) ∧ w = w' := by
  obtain ⟨A, cap, h, hl, hz, hc⟩ := h
  obtain ⟨n, hn⟩ : ∃ n, n = zs.length := ⟨_, rfl⟩
  rw [← hn] at h hz hc
  have cb : w.cell? ⟨Bx, 0, none⟩ = some (.slice A n cap) := by simp [World.cell?, h]
  by_cases h1 : x < 1
  · have e : atOf zs x = -1 := by unfold atOf; rw [if_neg (by omega)]
    rw [e]
    have d1 : decide (x < 1) = true := by simpa using h1
    clear h hc hl e hn
    go_enter Try.func31, Try.ntmps31
    go_wp2_with (fail)
    go_ret
    exact ⟨rfl, rfl⟩
  · have d1 : decide (x < 1) = false := by simpa using h1
    by_cases h2 : (n : Int) < x
    · have e : atOf zs x = -1 := by unfold atOf; rw [if_neg (by omega)]
      rw [e]
      have d2 : decide (x > (n : Int)) = true := by simpa using h2
      clear h hc hl e hn
      go_enter Try.func31, Try.ntmps31
      go_wp2_with (fail)
      go_ret
      exact ⟨rfl, rfl⟩
    · have d2 : decide (x > (n : Int)) = false := by simpa using h2
      obtain ⟨i, hi⟩ : ∃ i : Nat, x - 1 = (i : Int) := ⟨(x - 1).toNat, by omega⟩
      have hi1 : i < n := by omega
      have e : atOf zs x = zs.getD i 0 := by unfold atOf; rw [if_pos (by omega), hi]; rfl
      rw [e]
      obtain ⟨off, rfl, hc2⟩ := hc (by omega)
      have c1 := hc2 i hi1
      have hi0 : (0 : Int) ≤ (i : Int) := by omega
      have hi2 : (i : Int) < (n : Int) := by omega
      obtain ⟨z, hzz⟩ : ∃ z, z = zs.getD i 0 := ⟨_, rfl⟩
      rw [← hzz] at c1 ⊢
      clear h hc hc2 hl e hn hzz
      go_enter Try.func31, Try.ntmps31
      go_wp2_with (fail)
      go_ret
      exact ⟨rfl, rfl⟩

theorem catch_idle (p : Addr) (w : World) :
    CallsD Try.prog 53 #[.pointer (some p)] .returning w fun e u' w' => e = .returned (.tuple #[]) ∧ u' = .returning ∧ w' = w := by
  refine callsD_of_wpS Try.func53 rfl fun c₀ cs hu => ?_
  apply wpS_seq
  apply wpS_region
  simp [wpOpsS, go_sem, recoverD, hu, Try.ntmps53, Exit.thenS]
  refine wpS_cond (t := false) (by simp [Act.eval, Array.replicate]) ?_
  simp only [Bool.false_eq_true, if_false]
  refine wpS_of_wp (wp_skip ?_)
  cases c₀
  simp_all [bodyPostS, results, Try.results53]

set_option maxHeartbeats 1000000 in
theorem place_any {Bx Ab : Nat} {zs : List Int} (x : Int) (w : World) (h : Lk w Bx Ab zs) (h0 : 0 ≤ x) (h1 : x ≤ 4294967295) :
    Calls Try.prog 42 #[lkV Bx, .int .u32 x] w fun e w' => e = .returned (.int .i64 (atOf zs x)) ∧ Below w.heap.size w w' := by
  have hmf : ∀ (fn : Fn) (first cap : Array Value) (w : World), (Instr.makeFunc fn first cap).run Try.prog w = .ok (.func fn first cap) w := fun _ _ _ _ => rfl
  have H := Lib.hid h; clear h
  go_enter_defers Try.func42, Try.ntmps42
  go_wp2_with (first
    | (go_at_call 31; (with_reducible refine (link_any x _ (H.out.below (below_alloc0 (Below.refl _ _) _)) (by omega)).mono ?_); rintro r w1 ⟨rfl, hw⟩; cases hw)
    | fail)
  refine leaves_cons (f := 53) (args := #[.pointer (some ⟨w.heap.size, 0, none⟩)]) (by simp) (by simp [go_sem]) ?_
  refine (catch_idle ⟨w.heap.size, 0, none⟩ _).mono ?_
  rintro e u' w'' ⟨rfl, rfl, rfl⟩
  refine ⟨.int .i64 (atOf zs x), ?_, rfl, below_alloc0 (Below.refl _ _) _⟩
  simp [results, Try.results42, go_sem]
end Go.Proofs.Ytgnnhjadmepipaa
