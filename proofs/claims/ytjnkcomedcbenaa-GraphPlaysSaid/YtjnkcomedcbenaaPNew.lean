/- A new graph of the program's; walked. -/
import Derived.Test.YtjnkcomedcbenaaPShare
namespace Go.Proofs.Ytjnkcomedcbenaa
open Go.RowKit
set_option linter.unusedVariables false

def imax (x y : Int) : Int := if y > x then y else x
def imin (x y : Int) : Int := if y < x then y else x
@[go_sem ↓ high] theorem run_imax {P : Program} {w : World} (ts : Array TypeId) (t : TypeId) (k k' : IntKind) (x y : Int) : (Builtin.max_ ts t #[.int k x, .int k' y]).run P w = .ok (.int k (imax x y)) w := run_max_int2 ..
@[go_sem ↓ high] theorem run_imin {P : Program} {w : World} (ts : Array TypeId) (t : TypeId) (k k' : IntKind) (x y : Int) : (Builtin.min_ ts t #[.int k x, .int k' y]).run P w = .ok (.int k (imin x y)) w := run_min_int2 ..

theorem made_rows (n : Nat) : (madeCells (Value.slice none 0 0).cells n).toList = List.replicate n (.slice none 0 0) := by
  apply List.ext_getElem?
  intro j
  by_cases hj : j < n
  · simp [madeCells, hj, Value.cells, Nat.mod_one]
  · simp [madeCells, hj]
theorem make_rows (n : Nat) (w : World) (hn : n ≤ 10000) : (Instr.makeSlice 26 (.int .i64 (n : Int)) (.int .i64 (n : Int))).run Try.prog w = .ok (.slice (some ⟨w.heap.size, 0, none⟩) n n) (w.alloc (.cells (List.replicate n (Value.slice none 0 0)).toArray 43)) := by
  obtain ⟨i0, hi, hz0, hz1, hz2⟩ := info_parts info43
  have := run_make w 26 43 i0 (.slice none 0 0) Try.underlying26 hi hz0 .i64 .i64 n n (by omega) (Int.le_refl _) (by rw [hz2]; omega) (by omega)
  have e : madeCells (Value.slice none 0 0).cells n = (List.replicate n (Value.slice none 0 0)).toArray := by
    apply Array.ext'
    rw [made_rows]
  simpa [hz1, e] using this
section
variable {w w1 w2 : World} {S R : Nat} {t : Nat → Tag} {rv sv : List Value} {N : Value} {g : Gr}
theorem below_upd {B : Nat} {F : Nat → Prop} (hb : Below B w w1) (hB : B ≤ w.heap.size) (hu : UpdF F w1 w2) (hF : ∀ k, F k → B ≤ k) : Below B w w2 :=
  hb.trans ⟨hu.os, hu.tape, hu.output, hu.size, fun k hk => hu.block k (Nat.lt_of_lt_of_le hk (Nat.le_trans hB hb.size)) fun h => by have := hF k h; omega⟩
def tag0 (B : Nat) : Nat → Tag := fun k => if k = B then .tab else if k = B + 1 then .self else .out
theorem tag0_lo {B k : Nat} (h : tag0 B k ≠ .out) : B ≤ k := by
  unfold tag0 at h
  split at h
  · omega
  · split at h
    · omega
    · exact absurd rfl h
theorem pm_start (w : World) (n : Nat) (mo : Int) : PM ((w.alloc (.cells (List.replicate n (Value.slice none 0 0)).toArray 43)).alloc (.cells #[.int .i64 mo, .slice (some ⟨w.heap.size, 0, none⟩) n n, .slice none 0 0] 60)) (w.heap.size + 1) w.heap.size (tag0 w.heap.size) (List.replicate n (.slice none 0 0)) [] (.slice none 0 0) ⟨List.replicate n [], [], mo⟩ := by
  refine ⟨fun k hk => ?_, by simp [tag0], by simp [tag0], (fun k e => by cases e), ?_, ?_, by simp, World.ownsRow_nil _ _ _ _, fun m hm => ?_, fun v hv => by simp at hv⟩
  · unfold tag0 at hk
    split at hk
    · rename_i e; rw [e]; simp; omega
    · split at hk
      · rename_i e; rw [e]; simp
      · exact absurd rfl hk
  · have h := (First.start (w.alloc (.cells (List.replicate n (Value.slice none 0 0)).toArray 43)) (.cells #[.int .i64 mo, .slice (some ⟨w.heap.size, 0, none⟩) n n, .slice none 0 0] 60)).at0
    have e : (w.alloc (.cells (List.replicate n (Value.slice none 0 0)).toArray 43)).heap.size = w.heap.size + 1 := by simp
    rw [e] at h
    rw [h, List.length_replicate]
  · rw [Below.heap_alloc _ _ _ (by simp)]
    exact (First.start w _).at0
  · simp only [List.length_replicate] at hm
    have e1 : row (List.replicate n ([] : List Int)) m = [] := by simp [row, List.getD, hm]
    have e2 : (List.replicate n (Value.slice none 0 0)).getD m undef = .slice none 0 0 := by simp [List.getD, hm]
    simp only [e1, e2]
    exact .inl ⟨World.ownsRow_nil _ _ _ _, (fun k e => by cases e)⟩
/-- A new graph. -/
def SomeNewP (w : World) (g : Gr) (e : Ending) (w' : World) : Prop :=
  ∃ S R t rv sv N, e = .returned (ptr S) ∧ PM w' S R t rv sv N g ∧ Below w.heap.size w w' ∧ ∀ k, t k ≠ .out → w.heap.size ≤ k

set_option maxRecDepth 100000 in
set_option maxHeartbeats 4000000 in
theorem newP (mu mo sl : Int) (w : World) (h : mo ≤ 1000) : Calls Try.prog 11 #[.int .i64 mu, .int .i64 mo, .int .i64 sl] w (SomeNewP w (gNew mu (max mo 0) sl)) := by
  obtain ⟨n, hn⟩ : ∃ n, n = min mu.toNat 16 := ⟨_, rfl⟩
  obtain ⟨q, hq⟩ : ∃ q, q = min sl.toNat 64 := ⟨_, rfl⟩
  obtain ⟨mx, hmx⟩ : ∃ mx, mx = max mo 0 := ⟨_, rfl⟩
  have e1 : imin (imax mu 0) 16 = (n : Int) := by unfold imin imax; split <;> split <;> omega
  have e2 : imax mo 0 = mx := by unfold imax; split <;> omega
  have hm0 : 0 ≤ mx := by omega
  have hmk := make_rows n w (by omega)
  have hpm := pm_start w n mx
  have hbel : Below w.heap.size w ((w.alloc (.cells (List.replicate n (Value.slice none 0 0)).toArray 43)).alloc (.cells #[.int .i64 mx, .slice (some ⟨w.heap.size, 0, none⟩) n n, .slice none 0 0] 60)) := below_alloc0 (below_alloc0 (Below.refl _ _) _) _
  obtain ⟨CR, hCR⟩ : ∃ CR, CR = (List.replicate n (Value.slice none 0 0)).toArray := ⟨_, rfl⟩
  rw [← hCR] at hmk hpm hbel
  have HPM := Lib.hid hpm; have HBEL := Lib.hid hbel
  by_cases hs : 0 ≤ sl
  · have e3 : imin sl 64 = (q : Int) := by unfold imin; split <;> omega
    have eg : gNew mu mx sl = ⟨List.replicate n (if 0 < mx then [1] else []), [List.replicate q 0], mx⟩ := by
      simp only [gNew, hs, true_and, if_true, ← hn, ← hq]
    obtain ⟨G, hG⟩ : ∃ G, G = gNew mu mx sl := ⟨_, rfl⟩
    rw [← hmx, ← hG]
    have HG := Lib.hid (hG.trans eg); clear hG
    have HQ := Lib.hid (show q ≤ 64 by omega); have HN := Lib.hid (show n ≤ 16 by omega); have HM := Lib.hid hm0
    have hsd : decide (0 ≤ sl) = true := by simpa using hs
    clear hn hq hmx hpm hbel hCR eg h hm0
    go_enter Try.func11, Try.ntmps11
    go_wp2_with (first
      | (go_at_call 31; (with_reducible refine (madeP HPM.out (by simp) q HQ.out).mono ?_); rintro r w2 ⟨t2, rv2, sv2, N2, rfl, hp2, hu2, ho2, hn2⟩; have HP2 := Lib.hid hp2; have HB2 := Lib.hid (below_upd HBEL.out (Nat.le_refl _) hu2 fun k hk => tag0_lo hk); have HT2 : Hid (∀ k, t2 k ≠ .out → w.heap.size ≤ k) := Lib.hid (fun k hk => (hn2 k hk).elim (fun e => tag0_lo e) (fun e => Nat.le_trans HBEL.out.size e)); clear hp2 hu2 ho2 hn2)
      | (go_at_call 30; (with_reducible refine (shareP HP2.out HN.out 1 HB2.out HT2.out HM.out).mono ?_); rintro r w3 ⟨rfl, hr⟩; have HR := Lib.hid hr; clear hr)
      | fail)
    go_ret
    obtain ⟨t', rv', hp, hb, hl⟩ := HR.out
    rw [HG.out]
    exact ⟨_, _, t', rv', _, _, rfl, hp, hb, hl⟩
  · have eg : gNew mu mx sl = ⟨List.replicate n [], [], mx⟩ := by
      simp only [gNew, hs, false_and, if_false, ← hn]
    rw [← hmx, eg]
    have hsd : decide (0 ≤ sl) = false := by simpa using hs
    clear hn hq hmx hpm hbel hCR eg h hm0
    go_enter Try.func11, Try.ntmps11
    go_wp2_with (fail)
    go_ret
    exact ⟨_, _, _, _, _, _, rfl, HPM.out, HBEL.out, fun k hk => tag0_lo hk⟩
end
end Go.Proofs.Ytjnkcomedcbenaa
