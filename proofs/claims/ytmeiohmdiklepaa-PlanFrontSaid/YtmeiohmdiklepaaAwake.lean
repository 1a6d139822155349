/- The document's example, walked; contracts with their results as names. -/
import Derived.Test.YtmeiohmdiklepaaRef
namespace Go.Proofs.Ytmeiohmdiklepaa
open Go.RowKit
set_option linter.unusedVariables false

theorem reads_lit (w : World) (cs : Array Value) (e : TypeId) (zs : List Int) (hcs : cs = (zs.map (Value.int .i64)).toArray) : Reads (w.alloc (.cells cs e)) (some ⟨w.heap.size, 0, none⟩) zs := fun h => by
  refine ⟨w.heap.size, 0, rfl, by simp, fun j hj => ?_⟩
  subst hcs
  rw [World.cell?_alloc_at _ _ _ _ rfl]
  simp [List.getElem?_eq_getElem hj, List.getD]
theorem Reads.alloc {w : World} {A : Option Addr} {zs : List Int} (h : Reads w A zs) (o : Obj) : Reads (w.alloc o) A zs := h.keep ((Below.refl _ _).alloc (Nat.le_refl _) o) (Nat.le_refl _)
theorem Reads.below {w w' : World} {A : Option Addr} {zs : List Int} (h : Reads w A zs) (hb : Below w.heap.size w w') : Reads w' A zs := h.keep hb (Nat.le_refl _)

theorem order_at (A : Option Addr) (L cap : Nat) (ps : List Int) (n : Int) (zs : List Int) (Z : Nat) (w : World) (hL : L = ps.length) (h : Reads w A ps) (h2 : L ≤ 100) (hn : n ≤ 900) (hz : orderL ps n = zs) (hZ : Z = zs.length) :
    Calls Try.prog 11 #[.slice A L cap, .int .i64 n] w fun e w' => ∃ A', e = .returned (.slice A' Z Z) ∧ Reads w' A' zs ∧ Below w.heap.size w w' := by
  subst hL hz hZ
  exact order_any A cap ps n w h h2 hn
theorem same_at (A A' : Option Addr) (L cap L' cap' : Nat) (xs ys : List Int) (w : World) (hL : L = xs.length) (hL' : L' = ys.length) (h : Reads w A xs) (h' : Reads w A' ys) (hb : L ≤ 100000) (hb' : L' ≤ 100000) :
    Calls Try.prog 10 #[.slice A L cap, .slice A' L' cap'] w (SomeSame xs ys w) := by
  subst hL hL'
  exact same_any A A' cap cap' xs ys w h h' hb hb'
theorem gap_at (A : Option Addr) (L cap : Nat) (zs : List Int) (who : Int) (w : World) (hL : L = zs.length) (h : Reads w A zs) (hb : L ≤ 100000) :
    Calls Try.prog 15 #[.slice A L cap, .int .i64 who] w (SomeGap zs who w) := by
  subst hL
  exact gap_any A cap zs who w h hb
theorem refgap_at (A : Option Addr) (L cap : Nat) (zs : List Int) (who : Int) (w : World) (hL : L = zs.length) (h : Reads w A zs) (hb : L ≤ 100000) :
    Calls Try.prog 16 #[.slice A L cap, .int .i64 who] w (SomeGap zs who w) := by
  subst hL
  exact refgap_any A cap zs who w h hb
theorem win_at (A : Option Addr) (L cap : Nat) (zs : List Int) (all wide : Int) (w : World) (hL : L = zs.length) (h : Reads w A zs) (hb : L ≤ 100000) (ha : all ≤ 100000) (hw : wide ≤ 9223372036854775807) :
    Calls Try.prog 13 #[.slice A L cap, .int .i64 all, .int .i64 wide] w (SomeWinB zs all wide w) := by
  subst hL
  exact win_any A cap zs all wide w h hb ha hw
theorem refwin_at (A : Option Addr) (L cap : Nat) (zs : List Int) (all wide : Int) (w : World) (hL : L = zs.length) (h : Reads w A zs) (hb : L ≤ 100000) (ha : all ≤ 100000) (hw : wide ≤ 9223372036854775807) :
    Calls Try.prog 14 #[.slice A L cap, .int .i64 all, .int .i64 wide] w (SomeWin zs all wide w) := by
  subst hL
  exact refwin_any A cap zs all wide w h hb ha hw

theorem ex_gap : IsGap [1, 0, 1, 1] 0 2 := by
  refine ⟨⟨2, by omega, by simp, fun j h1 h2 => ?_⟩, fun i k ⟨h1, h2, h3⟩ => ?_⟩
  · have : j = 2 ∨ j = 3 := by omega
    rcases this with rfl | rfl <;> simp
  · by_cases h : i ≤ 1 ∧ 1 < k
    · exact absurd rfl (h3 1 h.1 h.2)
    · simp at h2; omega
theorem ex_win : IsWin [0, 1, 0] 2 2 := by
  refine .inr ⟨by omega, fun i W hW hi u hu => ?_⟩
  have h0 : i = 0 ∨ i = 1 := by simp at hi; omega
  have h1 : u = 0 ∨ u = 1 := by omega
  rcases h0 with rfl | rfl <;> rcases h1 with rfl | rfl
  · exact ⟨0, by omega, by omega, rfl⟩
  · exact ⟨1, by omega, by omega, rfl⟩
  · exact ⟨2, by omega, by omega, rfl⟩
  · exact ⟨1, by omega, by omega, rfl⟩
theorem ex_nowin : ¬ IsWin [0, 0, 1] 2 2 := by
  rintro (h | ⟨_, h⟩)
  · omega
  · obtain ⟨k, h1, h2, h3⟩ := h 0 2 rfl (by simp) 1 (by omega)
    have : k = 0 ∨ k = 1 := by omega
    rcases this with rfl | rfl <;> simp at h3
theorem ex_order : orderL [2, 3, 6] 6 = [0, 1, 0, 0, 1, 2] := by decide

def lit (l : List Int) : Obj := .cells (l.map (Value.int .i64)).toArray 3
theorem reads_l (w : World) (l : List Int) (A : Nat) (hA : A = w.heap.size) : Reads (w.alloc (lit l)) (some ⟨A, 0, none⟩) l := by
  subst hA
  exact reads_lit w _ _ l rfl

theorem below_lit {w w1 w2 : World} {o : Obj} (h : Below w.heap.size w w1) (k : Below (w1.alloc o).heap.size (w1.alloc o) w2) : Below w.heap.size w w2 :=
  (h.alloc h.size o).trans (k.mono (Nat.le_trans h.size (by simp)))

set_option maxHeartbeats 2000000 in
theorem awake_true (w : World) : Calls Try.prog 9 #[] w fun e w' => e = .returned (.bool true) ∧ Below w.heap.size w w' := by
  have hb : Below w.heap.size w w := Below.refl _ _
  have l1 : ∀ w' : World, Reads (w'.alloc (.cells #[.int .i64 2, .int .i64 3, .int .i64 6] 3)) (some ⟨w'.heap.size, 0, none⟩) [2, 3, 6] := fun w' => reads_lit w' _ _ _ rfl
  have l2 : ∀ w' : World, Reads (w'.alloc (.cells #[.int .i64 0, .int .i64 1, .int .i64 0, .int .i64 0, .int .i64 1, .int .i64 2] 3)) (some ⟨w'.heap.size, 0, none⟩) [0, 1, 0, 0, 1, 2] := fun w' => reads_lit w' _ _ _ rfl
  have l3 : ∀ w' : World, Reads (w'.alloc (.cells #[.int .i64 1, .int .i64 0, .int .i64 1, .int .i64 1] 3)) (some ⟨w'.heap.size, 0, none⟩) [1, 0, 1, 1] := fun w' => reads_lit w' _ _ _ rfl
  have l4 : ∀ (w' : World) (o : Obj), Reads ((w'.alloc o).alloc (.cells #[.int .i64 0, .int .i64 1, .int .i64 0] 3)) (some ⟨w'.heap.size + 1, 0, none⟩) [0, 1, 0] := fun w' o => by
    have := reads_lit (w'.alloc o) #[.int .i64 0, .int .i64 1, .int .i64 0] 3 [0, 1, 0] rfl
    simpa using this
  have l5 : ∀ w' : World, Reads (w'.alloc (.cells #[.int .i64 0, .int .i64 0, .int .i64 1] 3)) (some ⟨w'.heap.size, 0, none⟩) [0, 0, 1] := fun w' => reads_lit w' _ _ _ rfl
  have l1 := Lib.hid l1
  have l2 := Lib.hid l2
  have l3 := Lib.hid l3
  have l4 := Lib.hid l4
  have l5 := Lib.hid l5
  go_enter Try.func9, Try.ntmps9
  go_wp2_with (first
    | (go_at_call 11; (with_reducible refine (order_at _ _ _ [2, 3, 6] _ _ 6 _ (by decide) (l1.out _) (by omega) (by omega) ex_order (by decide)).mono ?_); rintro e w1 ⟨A, rfl, hR, hb1⟩; have hb := below_lit hb hb1; clear hb1)
    | (go_at_call 10; (with_reducible refine (same_at _ _ _ _ _ _ [0, 1, 0, 0, 1, 2] [0, 1, 0, 0, 1, 2] _ (by decide) (by decide) (hR.alloc _) (l2.out _) (by omega) (by omega)).mono ?_); rintro e w2 ⟨b, hbt, rfl, hb1⟩; have hb := below_lit hb hb1; obtain rfl := hbt.2 rfl; clear hb1 hR hbt)
    | (go_at_call 15; (with_reducible refine (gap_at _ _ _ [1, 0, 1, 1] _ _ (by decide) (l3.out _) (by omega)).mono ?_); rintro e w3 ⟨g, hg, rfl, rfl⟩; have hb := hb.alloc hb.size (.cells #[.int .i64 1, .int .i64 0, .int .i64 1, .int .i64 1] 3); obtain rfl := gap_uniq hg ex_gap; clear hg)
    | (go_at_call 13; (with_reducible refine (win_at _ _ _ [0, 1, 0] _ _ _ (by decide) (l4.out _ _) (by omega) (by omega) (by omega)).mono ?_); rintro e w4 ⟨b, hbt, rfl, hb1⟩; have hb := below_lit hb hb1; obtain rfl := hbt.2 ex_win; clear hb1 hbt)
    | (go_at_call 13; (with_reducible refine (win_at _ _ _ [0, 0, 1] _ _ _ (by decide) (l5.out _) (by omega) (by omega) (by omega)).mono ?_); rintro e w5 ⟨b, hbt, rfl, hb1⟩; have hb := below_lit hb hb1; obtain rfl : b = false := (by cases b; rfl; exact absurd (hbt.1 rfl) ex_nowin); clear hb1 hbt))
  go_ret
  exact ⟨rfl, hb⟩
end Go.Proofs.Ytmeiohmdiklepaa
