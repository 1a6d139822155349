/- The document's examples: awake, walked. -/
import Derived.Test.YtemjonahinohmaaMost
namespace Go.Proofs.Ytemjonahinohmaa
open Go.RowKit
set_option linter.unusedVariables false

theorem all52 (w : World) : Calls Try.prog 13 #[.int .i64 5, .int .i64 2] w (SomeR [(0, 2), (2, 4), (4, 5)] 3 w) :=
  all_at (S := 5) (C := 2) ⟨by decide, by decide, by decide⟩ (by decide) (by decide) w
theorem all02 (w : World) : Calls Try.prog 13 #[.int .i64 0, .int .i64 2] w (SomeR [(0, 0)] 1 w) :=
  all_at (S := 0) (C := 2) ⟨by decide, by decide, by decide⟩ (by decide) (by decide) w
theorem next522 (w : World) : Calls Try.prog 9 #[.int .i64 5, .int .i64 2, .int .i64 2] w fun e w' => e = .returned (.tuple #[.agg #[.int .i64 2, .int .i64 4], .bool true]) ∧ Below w.heap.size w w' :=
  next_any 5 2 2 5 2 2 4 true ⟨by decide, by decide, by decide, by decide⟩ (by decide) w
theorem reads2 (x y : Int) (T : TypeId) (k : Nat) (w : World) (hk : w.heap.size = k) : Reads .i64 (w.alloc (.cells #[.int .i64 x, .int .i64 y] T)) (some ⟨k, 0, none⟩) [x, y] := fun _ => by
  subst hk
  refine ⟨_, _, rfl, by simp, fun j hj => ?_⟩
  rw [World.cell?_alloc_at _ _ _ _ rfl]
  match j, hj with
  | 0, _ => rfl
  | 1, _ => rfl
theorem most2 (x y c r : Int) (cap k : Nat) (T : TypeId) (w : World) (hk : w.heap.size = k) (hr : sumT [x, y] c 2 = r) : Calls Try.prog 14 #[.slice (some ⟨k, 0, none⟩) 2 cap, .int .i64 c] (w.alloc (.cells #[.int .i64 x, .int .i64 y] T)) fun e w' => e = .returned (.int .i64 r) ∧ (w.alloc (.cells #[.int .i64 x, .int .i64 y] T)) = w' :=
  most_any _ 2 cap [x, y] c r _ rfl (reads2 x y T k w hk) (by omega) hr

set_option maxHeartbeats 2000000 in
set_option maxRecDepth 100000 in
theorem awake_true (w : World) : Calls Try.prog 8 #[] w fun e w' => e = .returned (.bool true) ∧ Below w.heap.size w w' := by
  have HB := Below.refl w.heap.size w
  go_enter Try.func8, Try.ntmps8
  go_wp2_with (first
    | (go_at_call 13; (with_reducible refine (all52 _).mono ?_); rintro e w1 ⟨A1, c1, rfl, hA, hb1⟩; have HB := below_then HB hb1; clear hb1)
    | (go_at_call 13; (with_reducible refine (all02 _).mono ?_); rintro e w2 ⟨A2, c2, rfl, hA2, hb2⟩; have hA := hA.below hb2; have HB := below_then HB hb2; clear hb2)
    | (go_at_call 9; (with_reducible refine (next522 _).mono ?_); rintro e w3 ⟨rfl, hb3⟩; have hA := hA.below hb3; have hA2 := hA2.below hb3; have HB := below_then HB hb3; clear hb3; obtain ⟨b1, o1, rfl, hl1, c10, c11⟩ := hA.at' 2 (by decide); obtain ⟨b2, o2, rfl, hl2, c20, c21⟩ := hA2.at' 0 (by decide); have d10 : w3.cell? ⟨b1, o1 + 4, none⟩ = some (.int .i64 4) := c10; have d11 : w3.cell? ⟨b1, o1 + 5, none⟩ = some (.int .i64 5) := c11; have d20 : w3.cell? ⟨b2, o2, none⟩ = some (.int .i64 0) := c20; have d21 : w3.cell? ⟨b2, o2 + 1, none⟩ = some (.int .i64 0) := c21; clear c10 c11 c20 c21)
    | (go_at_call 12; (with_reducible refine (count_any 5 2 3 (by decide) _).mono ?_); rintro r w4 ⟨rfl, rfl⟩)
    | (go_at_call 14; (with_reducible refine (most2 5 0 2 4 _ _ _ _ (by simp) (by decide)).mono ?_); rintro r w5 ⟨rfl, rfl⟩)
    | fail)
  go_ret
  exact ⟨rfl, by first | exact HB | exact (below_alloc0 (below_alloc0 HB _) _)⟩
end Go.Proofs.Ytemjonahinohmaa
