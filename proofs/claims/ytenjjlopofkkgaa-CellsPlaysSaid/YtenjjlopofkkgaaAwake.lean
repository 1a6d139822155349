/- The document's example, a choice of two words, and an access by its kind, walked. -/
import Derived.Test.YtenjjlopofkkgaaMade
namespace Go.Proofs.Ytenjjlopofkkgaa
open Go.RowKit
set_option linter.unusedVariables false

/-- A store of the call's own. -/
def Own (B S D : Nat) (w0 w : World) (L : List Int) (c : Int) : Prop := B ≤ S ∧ B ≤ D ∧ B ≤ w0.heap.size ∧ St w S D L c ∧ Below B w0 w
theorem Own.of_new {w0 w w' : World} {B S D : Nat} {L : List Int} (hb : Below B w0 w) (hB : B ≤ w0.heap.size) (hS : w.heap.size ≤ S) (hD : w.heap.size ≤ D) (h : St w' S D L 0) (hb' : Below w.heap.size w w') : Own B S D w0 w' L 0 := by
  have := hb.size
  exact ⟨by omega, by omega, hB, h, below_step hb (by omega) hb'⟩
theorem Own.left {w0 w w' : World} {B S D : Nat} {L L' : List Int} {c c' : Int} (h : Own B S D w0 w L c) (k : Left S D L' c' w w') : Own B S D w0 w' L' c' :=
  ⟨h.1, h.2.1, h.2.2.1, k.1, below_upd h.2.2.2.2 h.2.2.1 k.2 h.1 h.2.1⟩
theorem Own.step {w0 w w' : World} {B S D : Nat} {L : List Int} {c : Int} (h : Own B S D w0 w L c) (k : Below w.heap.size w w') : Own B S D w0 w' L c :=
  ⟨h.1, h.2.1, h.2.2.1, h.2.2.2.1.below k, below_step h.2.2.2.2 (Nat.le_trans h.2.2.1 h.2.2.2.2.size) k⟩
theorem Own.st {w0 w : World} {B S D : Nat} {L : List Int} {c : Int} (h : Own B S D w0 w L c) : St w S D L c := h.2.2.2.1
theorem Own.bel {w0 w : World} {B S D : Nat} {L : List Int} {c : Int} (h : Own B S D w0 w L c) : Below B w0 w := h.2.2.2.2

theorem reads_lit2 (w : World) (x y : Int) : Reads .u64 (w.alloc (.cells #[.int .u64 x, .int .u64 y] 27)) (some ⟨w.heap.size, 0, none⟩) [x, y] := fun _ =>
  ⟨w.heap.size, 0, rfl, by simp, fun j hj => by
    rw [Nat.zero_add, World.cell?_alloc_at _ _ _ _ rfl]
    match j, hj with
    | 0, _ => rfl
    | 1, _ => rfl⟩
theorem reads_lit1 (w : World) (x : Int) : Reads .u64 (w.alloc (.cells #[.int .u64 x] 27)) (some ⟨w.heap.size, 0, none⟩) [x] := fun _ =>
  ⟨w.heap.size, 0, rfl, by simp, fun j hj => by
    rw [Nat.zero_add, World.cell?_alloc_at _ _ _ _ rfl]
    match j, hj with
    | 0, _ => rfl⟩

theorem sw_ex {w0 w w' : World} {B S D : Nat} (h : Own B S D w0 w [5, 6] 0) (k : Left S D (swv [5, 6] 0 5 9) (0 + 1) w w') : Own B S D w0 w' [9, 6] 1 := h.left k
theorem ad_ex {w0 w w' : World} {B S D : Nat} (h : Own B S D w0 w [9, 6] 1) (k : Left S D (adv [9, 6] 1 2) (1 + 1) w w') : Own B S D w0 w' [9, 8] 2 := h.left k

set_option maxHeartbeats 2000000 in
theorem awake_any (w : World) : Calls Try.prog 9 #[] w fun e w' => e = .returned (.bool true) ∧ Below w.heap.size w w' := by
  have HR := Lib.hid (reads_lit2 w 5 6)
  go_enter Try.func9, Try.ntmps9
  go_wp2_with (first
    | (go_at_call 10; (with_reducible refine (new_any _ 2 2 [5, 6] _ rfl HR.out (by decide)).mono ?_); rintro r w1 ⟨S, D, rfl, hS, hD, hs, hb⟩; have HK := Lib.hid (Own.of_new (below_alloc0 (Below.refl _ _) _) (Nat.le_refl _) hS hD hs hb); clear hs hb hS hD)
    | (go_at_call 16; (with_reducible refine (swap_any 0 5 9 _ HK.out.st (by decide) (by decide)).mono ?_); rintro r w2 ⟨rfl, hk⟩; rw [show swB [5, 6] 0 5 = true from rfl]; have HK := Lib.hid (sw_ex HK.out hk); clear hk)
    | (go_at_call 18; (with_reducible refine (add_any 1 2 _ HK.out.st (by decide) (by decide)).mono ?_); rintro r w3 ⟨rfl, hk⟩; rw [show ldv [9, 6] 1 = 6 from rfl]; have HK := Lib.hid (ad_ex HK.out hk); clear hk)
    | (go_at_call 21; (with_reducible refine (cnt_any _ HK.out.st).mono ?_); rintro r w4 ⟨rfl, rfl⟩)
    | (go_at_call 22; (with_reducible refine (len_any _ HK.out.st).mono ?_); rintro r w5 ⟨rfl, rfl⟩)
    | (go_at_call 11; (with_reducible refine (load_any 0 _ HK.out.st (by decide) (by decide)).mono ?_); rintro r w6 ⟨rfl, hk⟩; rw [show ldv [9, 8] 0 = 9 from rfl]; have HK := Lib.hid (HK.out.left hk); clear hk)
    | (go_at_call 11; (with_reducible refine (load_any 1 _ HK.out.st (by decide) (by decide)).mono ?_); rintro r w7 ⟨rfl, hk⟩; rw [show ldv [9, 8] 1 = 8 from rfl]; have HK := Lib.hid (HK.out.left hk); clear hk)
    | fail)
  go_ret
  exact ⟨rfl, HK.out.bel⟩
end Go.Proofs.Ytenjjlopofkkgaa
