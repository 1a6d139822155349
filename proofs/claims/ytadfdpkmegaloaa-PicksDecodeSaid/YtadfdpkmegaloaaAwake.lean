/- The document's examples: awake, walked; and each contract with its lengths and results as names. -/
import Derived.Test.YtadfdpkmegaloaaEncode
import Derived.Test.YtadfdpkmegaloaaRefEnc
import Derived.Test.YtadfdpkmegaloaaRefRound
import Derived.Test.YtadfdpkmegaloaaRefFair
namespace Go.Proofs.Ytadfdpkmegaloaa
open Go.RowKit
set_option linter.unusedVariables false

/-- A slice of picks that reads as these. -/
def SomeR (l : List Pk) (m : Nat) (w : World) (e : Ending) (w' : World) : Prop := ∃ A c, e = .returned (.slice A m c) ∧ ReadsP w' A l ∧ (A = none → c = 0) ∧ Below w.heap.size w w'
theorem somep_at {e : TypeId} {f : Nat} {args : Array Value} {w : World} {l r : List Pk} {m : Nat} (h : Calls Try.prog f args w (SomeP e l w)) (hr : l = r) (hm : m = r.length) : Calls Try.prog f args w (SomeR r m w) := by
  subst hr; subst hm
  exact h.mono fun en w' ⟨v, he, ho⟩ => by
    obtain ⟨A, c, rfl, h1, h2, _, _⟩ := ho.reads
    exact ⟨A, c, he, h1, h2, ho.2⟩
/-- A slice of bytes that reads as these. -/
def SomeRB (l : List Int) (m : Nat) (w : World) (e : Ending) (w' : World) : Prop := ∃ A c, e = .returned (.slice A m c) ∧ Reads .u8 w' A l ∧ (A = none → c = 0) ∧ Below w.heap.size w w'
theorem someb_at {f : Nat} {args : Array Value} {w : World} {l r : List Int} {m : Nat} (h : Calls Try.prog f args w (SomeB l w)) (hr : l = r) (hm : m = r.length) : Calls Try.prog f args w (SomeRB r m w) := by
  subst hr; subst hm
  exact h.mono fun en w' ⟨v, he, ho⟩ => by
    obtain ⟨A, c, rfl, h1, h2, _, _⟩ := ho.reads
    exact ⟨A, c, he, h1, h2, ho.2⟩

theorem decode_at (A : Option Addr) (cap n m : Nat) (zs : List Int) (all : Int) (r : List Pk) (w : World) (hn : n = zs.length) (h : Reads .u8 w A zs) (hz : Byt zs) (hb : n ≤ 1000) (hr : decL zs all = r) (hm : m = r.length) :
    Calls Try.prog 11 #[.slice A n cap, .int .i64 all] w (SomeR r m w) := by
  subst hn
  exact somep_at (decode_any A cap zs all w h hz hb) hr hm
theorem encode_at (A : Option Addr) (cap n m : Nat) (l : List Pk) (r : List Int) (w : World) (hn : n = l.length) (h : ReadsP w A l) (hb : n ≤ 1000) (hr : encL l = r) (hm : m = r.length) :
    Calls Try.prog 13 #[.slice A n cap] w (SomeRB r m w) := someb_at (encode_any A cap n l w hn h hb) hr hm
theorem fair_at (A : Option Addr) (cap n m : Nat) (l : List Pk) (all : Int) (r : List Pk) (w : World) (hn : n = l.length) (h : ReadsP w A l) (hb : n ≤ 300) (hr : fairL l (fairN all) = r) (hm : m = r.length) :
    Calls Try.prog 19 #[.slice A n cap, .int .i64 all] w (SomeR r m w) := somep_at (fair_any A cap n l all w hn h hb) hr hm

theorem reads3 (a b c d e f : Int) (T : TypeId) (w : World) : ReadsP (w.alloc (.cells #[.int .i64 a, .int .i64 b, .int .i64 c, .int .i64 d, .int .i64 e, .int .i64 f] T)) (some ⟨w.heap.size, 0, none⟩) [(a, b), (c, d), (e, f)] := fun _ => by
  refine ⟨_, _, rfl, by simp, fun j hj => ?_⟩
  rw [World.cell?_alloc_at _ _ _ _ rfl, World.cell?_alloc_at _ _ _ _ rfl]
  match j, hj with
  | 0, _ => exact ⟨rfl, rfl⟩
  | 1, _ => exact ⟨rfl, rfl⟩
  | 2, _ => exact ⟨rfl, rfl⟩

theorem round3 (w : World) : Calls Try.prog 17 #[.int .i64 3, .int .i64 1, .int .i64 2, .int .i64 5] w (SomeR [(2, 5), (0, 5), (1, 5)] 3 w) :=
  somep_at (round_some 3 1 3 2 5 w (by omega) (by omega) rfl (by omega) (by omega) (by omega)) (by decide) rfl

theorem byt5 : Byt [1, 7, 9, 8, 0] := by
  intro i
  match i with
  | 0 => decide
  | 1 => decide
  | 2 => decide
  | 3 => decide
  | 4 => decide
  | i + 5 => simp [List.getD]
theorem decode5 (cap : Nat) (A : Option Addr) (w : World) (h : Reads .u8 w A [1, 7, 9, 8, 0]) : Calls Try.prog 11 #[.slice A 5 cap, .int .i64 3] w (SomeR [(1, 7), (-1, 8), (-1, 0)] 3 w) :=
  decode_at A cap 5 3 _ 3 _ w rfl h byt5 (by omega) (by decide) rfl
theorem fair8 (cap : Nat) (A : Option Addr) (w : World) (h : ReadsP w A [(1, 7), (-1, 8), (-1, 0)]) : Calls Try.prog 19 #[.slice A 3 cap, .int .i64 2] w (SomeR (fairL [(1, 7), (-1, 8), (-1, 0)] 2) 8 w) :=
  fair_at A cap 3 8 _ 2 _ w rfl h (by omega) rfl (by decide)
theorem encode6 (cap : Nat) (A : Option Addr) (w : World) (h : ReadsP w A [(1, 7), (-1, 8), (-1, 0)]) : Calls Try.prog 13 #[.slice A 3 cap] w (SomeRB [1, 7, 255, 8, 255, 0] 6 w) :=
  encode_at A cap 3 6 _ _ w rfl h (by omega) (by decide) rfl
theorem same3 (A A' : Option Addr) (cap cap' : Nat) (a b c d e f : Int) (w : World) (h : ReadsP w A [(a, b), (c, d), (e, f)]) (h' : ReadsP w A' [(a, b), (c, d), (e, f)]) :
    Calls Try.prog 10 #[.slice A 3 cap, .slice A' 3 cap'] w fun e w' => e = .returned (.bool true) ∧ Below w.heap.size w w' :=
  same_yes A A' cap cap' 3 3 _ w rfl rfl h h' (by omega) (by omega)

theorem reads5 (w : World) : Reads .u8 (w.alloc (.cells #[.int .u8 1, .int .u8 7, .int .u8 9, .int .u8 8, .int .u8 0] 5)) (some ⟨w.heap.size, 0, none⟩) [1, 7, 9, 8, 0] := fun _ => by
  refine ⟨_, _, rfl, by simp, fun j hj => ?_⟩
  rw [World.cell?_alloc_at _ _ _ _ rfl]
  match j, hj with
  | 0, _ => rfl
  | 1, _ => rfl
  | 2, _ => rfl
  | 3, _ => rfl
  | 4, _ => rfl

set_option maxHeartbeats 2000000 in
set_option maxRecDepth 100000 in
theorem awake_true (w : World) : Calls Try.prog 9 #[] w fun e w' => e = .returned (.bool true) ∧ Below w.heap.size w w' := by
  have HB := Below.refl w.heap.size w
  go_enter Try.func9, Try.ntmps9
  go_wp2_with (first
    | (go_at_call 11; (with_reducible refine (decode5 _ _ _ (reads5 w)).mono ?_); rintro e w1 ⟨A1, c1, rfl, hA, _, hb1⟩; have HB := below_step (below_alloc0 HB _) (below_alloc0 HB _).size hb1; clear hb1)
    | (go_at_call 17; (with_reducible refine (round3 _).mono ?_); rintro e w2 ⟨A2, c2, rfl, hA2, _, hb2⟩; have hA := hA.below hb2; have HB := below_step HB HB.size hb2; clear hb2)
    | (go_at_call 10; (with_reducible refine (same3 _ _ _ _ _ _ _ _ _ _ _ (hA.below (below_alloc0 (Below.refl _ _) _)) (reads3 _ _ _ _ _ _ _ _)).mono ?_); rintro e w3 ⟨rfl, hb3⟩; have hb3 := below_step (below_alloc0 (Below.refl _ _) _) (below_alloc0 (Below.refl _ _) _).size hb3; have hA := hA.below hb3; have hA2 := hA2.below hb3; have HB := below_step HB HB.size hb3; clear hb3)
    | (go_at_call 10; (with_reducible refine (same3 _ _ _ _ _ _ _ _ _ _ _ (hA2.below (below_alloc0 (Below.refl _ _) _)) (reads3 _ _ _ _ _ _ _ _)).mono ?_); rintro e w3 ⟨rfl, hb3⟩; have hb3 := below_step (below_alloc0 (Below.refl _ _) _) (below_alloc0 (Below.refl _ _) _).size hb3; have hA := hA.below hb3; have hA2 := hA2.below hb3; have HB := below_step HB HB.size hb3; clear hb3)
    | (go_at_call 19; (with_reducible refine (fair8 _ _ _ hA).mono ?_); rintro e w4 ⟨A4, c4, rfl, _, _, hb4⟩; have hA := hA.below hb4; have HB := below_step HB HB.size hb4; clear hb4)
    | (go_at_call 13; (with_reducible refine (encode6 _ _ _ hA).mono ?_); rintro e w5 ⟨A5, c5, rfl, hA5, _, hb5⟩; have hcv := conv_any A5 c5 6 _ w5 rfl hA5; have HB := below_step HB HB.size hb5; clear hb5))
  go_ret
  exact ⟨ret_bool (by rw [ByteArray.toList_eq]; decide), HB⟩
end Go.Proofs.Ytadfdpkmegaloaa
