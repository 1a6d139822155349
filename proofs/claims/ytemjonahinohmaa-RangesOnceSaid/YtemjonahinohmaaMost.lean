/- How many tasks of a list of nodes: walked; and each answer with its list. -/
import Derived.Test.YtemjonahinohmaaAll
namespace Go.Proofs.Ytemjonahinohmaa
open Go.RowKit
set_option linter.unusedVariables false

/-- Pieces of the first k numbers, added up. -/
def sumT (zs : List Int) (c : Int) : Nat → Int
  | 0 => 0
  | k + 1 => sumT zs c k + cntW (zs.getD k 0) c
theorem sumT_bd (zs : List Int) (c : Int) : ∀ k : Nat, 0 ≤ sumT zs c k ∧ sumT zs c k ≤ 1001 * (k : Int)
  | 0 => by simp [sumT]
  | k + 1 => by
    have := sumT_bd zs c k
    have := cntW_bd (zs.getD k 0) c
    simp only [sumT]
    omega

set_option maxHeartbeats 1000000 in
theorem most_any (A : Option Addr) (n cap : Nat) (zs : List Int) (c r : Int) (w : World) (hn : n = zs.length) (h : Reads .i64 w A zs) (hb : n ≤ 1000) (hr : sumT zs c n = r) :
    Calls Try.prog 14 #[.slice A n cap, .int .i64 c] w fun e w' => e = .returned (.int .i64 r) ∧ w = w' := by
  have hc0 : ∀ j, j < n → ∃ b off, A = some ⟨b, off, none⟩ ∧ b < w.heap.size ∧ w.cell? ⟨b, off + j, none⟩ = some (.int .i64 (zs.getD j 0)) := fun j hj => by
    obtain ⟨b, off, e, h1, h2⟩ := h (by omega)
    exact ⟨b, off, e, h1, h2 j (by omega)⟩
  have HC := Lib.hid hc0
  have HR := Lib.hid hr
  clear h hc0 hn hr
  go_enter Try.func14, Try.ntmps14
  go_wp2
  go_loopw [5, 10] (fun t i wr => ∃ k : Nat, k ≤ n ∧ t = .int .i64 (sumT zs c k) ∧ i = .int .i64 (k : Int) ∧ w = wr) (fun _ i _ => n - (intOf i).toNat)
  case atStart => exact ⟨0, Nat.zero_le _, rfl, rfl, rfl⟩
  case round =>
    obtain ⟨k, hk, rfl, rfl, rfl⟩ := hrel
    by_cases hlt : k < n
    · obtain ⟨b, off, rfl, hbl, hcell⟩ := HC.out k hlt
      have hs := sumT_bd zs c k
      have hw := cntW_bd (zs.getD k 0) c
      have e : sumT zs c (k + 1) = sumT zs c k + cntW (zs.getD k 0) c := rfl
      obtain ⟨q, hq⟩ : ∃ q, q = sumT zs c k := ⟨_, rfl⟩
      obtain ⟨z, hz⟩ : ∃ z, z = zs.getD k 0 := ⟨_, rfl⟩
      obtain ⟨v, hv⟩ : ∃ v, v = cntW z c := ⟨_, rfl⟩
      rw [← hz] at hcell hw e
      rw [← hv] at hw e
      rw [← hq] at hs e ⊢
      have HE := Lib.hid e
      have HV := Lib.hid hv.symm
      have hk0 : (0 : Int) ≤ (k : Int) := by omega
      have hk1 : (k : Int) < (n : Int) := by omega
      clear e hz hv hq
      obtain ⟨s0, s1⟩ := hs
      obtain ⟨v0, v1⟩ := hw
      go_wp2_with (first
        | (go_at_call 12; (with_reducible refine (count_any _ _ _ HV.out _).mono ?_); rintro r w1 ⟨rfl, rfl⟩)
        | fail)
      go_roundw
      case rel => exact ⟨k + 1, by omega, by rw [HE.out], by go_num, trivial⟩
      case measure => simp [intOf]; omega
    · obtain rfl : k = n := by omega
      go_wp2
      go_ret
      exact ⟨ret_int HR.out, rfl⟩

/-- A slice of pieces that reads as these. -/
def SomeR (l : List Pk) (m : Nat) (w : World) (e : Ending) (w' : World) : Prop := ∃ A c, e = .returned (.slice A m c) ∧ ReadsP w' A l ∧ Below w.heap.size w w'
theorem all_at {s c S C : Int} {n : Nat} {l : List Pk} (hp : Pc s c S C n) (hn : cntW s c = (n : Int)) (hl : upR S C n = l) (w : World) :
    Calls Try.prog 13 #[.int .i64 s, .int .i64 c] w (SomeR l n w) := by
  subst hl
  exact (all_any hp hn w).mono fun en w' ⟨v, he, ho⟩ => by
    obtain ⟨A, c, rfl, h1, _, _, _⟩ := ho.reads
    rw [up_len] at he
    exact ⟨A, c, he, h1, ho.2⟩
theorem ReadsP.at' {w : World} {A : Option Addr} {l : List Pk} (h : ReadsP w A l) (j : Nat) (hj : j < l.length) : ∃ b off, A = some ⟨b, off, none⟩ ∧ b < w.heap.size ∧ w.cell? ⟨b, off + j * 2, none⟩ = some (.int .i64 (at_ l j).1) ∧ w.cell? ⟨b, off + (j * 2 + 1), none⟩ = some (.int .i64 (at_ l j).2) := by
  obtain ⟨b, off, e, h1, h2⟩ := h (by omega)
  exact ⟨b, off, e, h1, h2 j hj⟩
theorem up_at {S C : Int} {n j : Nat} (hj : j < n) : at_ (upR S C n) j = (atR S C (j : Int), endR S C (j : Int)) := by
  simp [at_, upR, List.getD, hj]
end Go.Proofs.Ytemjonahinohmaa
