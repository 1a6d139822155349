/-  -/
import Derived.WalkKit
import Derived.Test.YthoiaffeenhfgaaGreatRows
import Derived.Test.YthoiaffeenhfgaaGreatLayLayPure
import Derived.WalkSpells
import Derived.WalkLawsBesides
import Derived.WalkSmall
import Derived.BigQuiet
import Derived.BigRegion
import Derived.StillTailTactics
import Derived.Deep.QuietTactic
import Derived.Deep.RegionWith
import Derived.Deep.RegionHeld3
import Derived.Deep.DeepCutAuto
import Derived.Deep.AppendLies
import Derived.Deep.Onto
import Derived.Lib.Hide
import Derived.Lib.SmallJoins
import Derived.Handy
import Derived.IntWalk
import Derived.Below
import Derived.Laws.ResultCell
import Derived.Laws.StructEq
import Derived.LoopN
import Derived.OpenShut
import Derived.OwnWalk
import Derived.Laws.AppendOwn
import Derived.Laws.AppendOwnNone
namespace Go.Proofs.YthoiaffeenhfgaaGreat.Lay
def lowTo (p : Nat → Bool) (n : Nat) : Nat → Nat
  | 0 => 0
  | j + 1 => if p (n - 1 - j) = true then n - 1 - j else lowTo p n j
def ofK (ks : List Int) (k : Int) (v : Nat) : Bool := decide (ks.getD (v - 1) 9 = k)
def cl (ks : List Int) (k : Int) : Nat → Nat
  | 0 => 0
  | v + 1 => cl ks k v + if 1 ≤ v ∧ ofK ks k v = true then 1 else 0
end Go.Proofs.YthoiaffeenhfgaaGreat.Lay

namespace Go.Proofs.YthoiaffeenhfgaaGreat.Lay
open Go.RowKit
set_option linter.unusedVariables false
theorem info54 : (Tryz.prog.info? 39).map (fun i => (i.zero, i.size, i.bytes)) = some (some (.int .u64 0), 1, 8) := by kernel_rfl
theorem ret_int {k : IntKind} {a b : Int} (h : a = b) : Ending.returned (.int k a) = .returned (.int k b) := by rw [h]
theorem below_step {B : Nat} {a w w' : World} (h : Below B a w) (hB : B ≤ w.heap.size) (k : Below w.heap.size w w') : Below B a w' := h.trans (k.mono hB)
theorem below_drewN {B : Nat} {a w : World} (h : Below B a w) : ∀ n, Below B a (w.drewN n)
  | 0 => h
  | n + 1 => (below_drewN h n).drew
theorem below_alloc0 {w w' : World} (h : Below w.heap.size w w') (o : Obj) : Below w.heap.size w (w'.alloc o) := h.alloc h.size o
theorem below_then {w w1 w2 : World} (h : Below w.heap.size w w1) (k : Below w1.heap.size w1 w2) : Below w.heap.size w w2 := below_step h h.size k
theorem grown_of_below {a b : World} {row : Option Nat} (h : Below a.heap.size a b) : a.grownBy b row :=
  ⟨h.os, h.tape, h.output, h.size, fun i hi _ => h.block i hi⟩
theorem map_get (k : IntKind) (l : List Int) (u : Nat) (h : u < l.length) : (l.map (Value.int k))[u]? = some (.int k (l.getD u 0)) := by
  simp [List.getElem?_map, List.getElem?_eq_getElem h, List.getD]
def imax (x y : Int) : Int := if y > x then y else x
def imin (x y : Int) : Int := if y < x then y else x
@[go_sem ↓ high] theorem run_imax {P : Program} {w : World} (ts : Array TypeId) (t : TypeId) (k k' : IntKind) (x y : Int) : (Builtin.max_ ts t #[.int k x, .int k' y]).run P w = .ok (.int k (imax x y)) w := run_max_int2 ..
@[go_sem ↓ high] theorem run_imin {P : Program} {w : World} (ts : Array TypeId) (t : TypeId) (k k' : IntKind) (x y : Int) : (Builtin.min_ ts t #[.int k x, .int k' y]).run P w = .ok (.int k (imin x y)) w := run_min_int2 ..
end Go.Proofs.YthoiaffeenhfgaaGreat.Lay

namespace Go.Proofs.YthoiaffeenhfgaaGreat.Lay
open Go.RowKit
set_option linter.unusedVariables false
def slotsOf (k : Int) : Int := if k = 0 then 1 else if k = 1 then 2 else if k = 2 then 4 else if k = 3 then 8 else if k = 4 then 16 else 0
theorem slots_bd (k : Int) : 0 ≤ slotsOf k ∧ slotsOf k ≤ 16 := by unfold slotsOf; omega
set_option maxHeartbeats 400000 in
theorem slots_any (k : Int) (w : World) :
    Calls Tryz.prog 44 #[.int .i64 k] w fun e w' => e = .returned (.int .i64 (slotsOf k)) ∧ w = w' := by
  by_cases h : 0 ≤ k ∧ k < 5
  · have : k = 0 ∨ k = 1 ∨ k = 2 ∨ k = 3 ∨ k = 4 := by omega
    clear h
    rcases this with rfl | rfl | rfl | rfl | rfl
    all_goals
      go_enter Tryz.func44, Tryz.ntmps44
      go_wp2
      go_ret
      exact ⟨rfl, rfl⟩
  · have hs : slotsOf k = 0 := by unfold slotsOf; omega
    have HS := Lib.hid hs; clear hs
    by_cases h1 : k < 0
    · clear h
      go_enter Tryz.func44, Tryz.ntmps44
      go_wp2
      go_ret
      exact ⟨ret_int HS.out.symm, rfl⟩
    · have h2 : 5 ≤ k := by omega
      have h3 : 0 ≤ k := by omega
      clear h h1
      go_enter Tryz.func44, Tryz.ntmps44
      go_wp2
      go_ret
      exact ⟨ret_int HS.out.symm, rfl⟩
def many (c : Int) : Int := imin (imax c 0) 12
theorem many_bd (c : Int) : 0 ≤ many c ∧ many c ≤ 12 := by unfold many imin imax; omega
theorem many_is {c : Int} (h : 0 ≤ c ∧ c ≤ 12) : many c = c := by unfold many imin imax; omega
set_option maxHeartbeats 1000000 in
theorem within_any (a b c d e : Int) (w : World) :
    Calls Tryz.prog 84 #[.agg #[.int .i64 a, .int .i64 b, .int .i64 c, .int .i64 d, .int .i64 e]] w fun r w' => r = .returned (.agg #[.int .i64 (many a), .int .i64 (many b), .int .i64 (many c), .int .i64 (many d), .int .i64 (many e)]) ∧ Below w.heap.size w w' := by
  go_enter Tryz.func84, Tryz.ntmps84
  go_wp2
  refine wp_loop_rounds 6 ?_
  rw [rounds_succ]; go_wp2
  rw [rounds_succ]; go_wp2
  rw [rounds_succ]; go_wp2
  rw [rounds_succ]; go_wp2
  rw [rounds_succ]; go_wp2
  rw [rounds_succ]; go_wp2
  exact bodyPost_ret (v := .agg #[.int .i64 (many a), .int .i64 (many b), .int .i64 (many c), .int .i64 (many d), .int .i64 (many e)]) (by simp [results, Tryz.results84, go_sem, many]) rfl ⟨rfl, by go_grown⟩
set_option maxHeartbeats 1000000 in
theorem nodes_any (a b c d e : Int) (w : World) :
    Calls Tryz.prog 64 #[.agg #[.int .i64 a, .int .i64 b, .int .i64 c, .int .i64 d, .int .i64 e]] w fun r w' => r = .returned (.int .i64 (many a + many b + many c + many d + many e)) ∧ Below w.heap.size w w' := by
  obtain ⟨a0, a1⟩ := many_bd a
  obtain ⟨b0, b1⟩ := many_bd b
  obtain ⟨c0, c1⟩ := many_bd c
  obtain ⟨d0, d1⟩ := many_bd d
  obtain ⟨e0, e1⟩ := many_bd e
  go_enter Tryz.func64, Tryz.ntmps64
  go_wp2_with (go_at_call 84; (with_reducible refine (within_any _ _ _ _ _ _).mono ?_); rintro r w1 ⟨rfl, hb⟩; have hb := below_step ((Below.refl _ _).alloc (Nat.le_refl _) _) (by simp) hb)
  refine wp_loop_rounds 6 ?_
  rw [rounds_succ]; go_wp2
  rw [rounds_succ]; go_wp2
  rw [rounds_succ]; go_wp2
  rw [rounds_succ]; go_wp2
  rw [rounds_succ]; go_wp2
  rw [rounds_succ]; go_wp2
  go_ret
  exact ⟨rfl, hb.alloc hb.size _⟩
def kindOf (a b c d e v : Int) : Int := if v < 1 then -1 else if v ≤ many a then 0 else if v ≤ many a + many b then 1 else if v ≤ many a + many b + many c then 2 else if v ≤ many a + many b + many c + many d then 3 else if v ≤ many a + many b + many c + many d + many e then 4 else -1
set_option maxHeartbeats 2000000 in
theorem class_any (a b c d e v : Int) (w : World) :
    Calls Tryz.prog 85 #[.agg #[.int .i64 a, .int .i64 b, .int .i64 c, .int .i64 d, .int .i64 e], .int .i64 v] w fun r w' => r = .returned (.int .i64 (kindOf a b c d e v)) ∧ Below w.heap.size w w' := by
  obtain ⟨a0, a1⟩ := many_bd a
  obtain ⟨b0, b1⟩ := many_bd b
  obtain ⟨c0, c1⟩ := many_bd c
  obtain ⟨d0, d1⟩ := many_bd d
  obtain ⟨e0, e1⟩ := many_bd e
  by_cases h : v < 1
  · go_enter Tryz.func85, Tryz.ntmps85
    go_wp2
    go_ret
    refine ⟨ret_int (by unfold kindOf; omega), ?_⟩
    exact (Below.refl _ _).alloc (Nat.le_refl _) _
  · go_enter Tryz.func85, Tryz.ntmps85
    go_wp2_with (go_at_call 84; (with_reducible refine (within_any _ _ _ _ _ _).mono ?_); rintro r w1 ⟨rfl, hb⟩; have hb := below_step ((Below.refl _ _).alloc (Nat.le_refl _) _) (by simp) hb)
    refine wp_loop_rounds 6 ?_
    repeat any_goals (rw [rounds_succ]; go_wp2)
    all_goals go_ret
    all_goals exact ⟨ret_int (by unfold kindOf; omega), hb.alloc hb.size _⟩
end Go.Proofs.YthoiaffeenhfgaaGreat.Lay

namespace Go.Proofs.YthoiaffeenhfgaaGreat.Lay
open Go.RowKit
def cnt (a b c d e : Int) (k : Nat) : Int := if k = 0 then a else if k = 1 then b else if k = 2 then c else if k = 3 then d else e
def pre (a b c d e : Int) : Nat → List Int
  | 0 => []
  | k + 1 => pre a b c d e k ++ List.replicate (many (cnt a b c d e k)).toNat (k : Int)
theorem pre_len (a b c d e : Int) : ∀ k : Nat, (pre a b c d e k).length ≤ 12 * k
  | 0 => by simp [pre]
  | k + 1 => by
    have := pre_len a b c d e k
    have := many_bd (cnt a b c d e k)
    simp [pre]; omega
def Own (B : Nat) (w0 wr : World) (v : Value) (l : List Int) : Prop :=
  wr.ownsRow (B + 1) 3 1 v l.length (l.map (Value.int .i64)) ∧ Below (B + 1) w0 wr
theorem pre5 (a b c d e : Int) : pre a b c d e 5 = List.replicate (many a).toNat 0 ++ (List.replicate (many b).toNat 1 ++ (List.replicate (many c).toNat 2 ++ (List.replicate (many d).toNat 3 ++ List.replicate (many e).toNat 4))) := by
  simp [pre, cnt, List.append_assoc]
theorem pre_length (a b c d e : Int) : ((pre a b c d e 5).length : Int) = many a + many b + many c + many d + many e := by
  have := many_bd a; have := many_bd b; have := many_bd c; have := many_bd d; have := many_bd e
  rw [pre5]; simp only [List.length_append, List.length_replicate]; omega
theorem rep_at (n : Nat) (k : Int) (l : List Int) (i : Nat) : (List.replicate n k ++ l).getD i 0 = if i < n then k else l.getD (i - n) 0 := by
  rw [List.getD_eq_getElem?_getD, List.getElem?_append]
  simp only [List.length_replicate, List.getElem?_replicate]
  split <;> simp
theorem pre_at (a b c d e : Int) (i : Nat) (h : i < (pre a b c d e 5).length) : (pre a b c d e 5).getD i 0 = kindOf a b c d e (i + 1) := by
  have := many_bd a; have := many_bd b; have := many_bd c; have := many_bd d; have := many_bd e
  have hl := pre_length a b c d e
  rw [pre5, rep_at, rep_at, rep_at, rep_at, List.getD_eq_getElem?_getD, List.getElem?_replicate]
  by_cases h1 : i < (many a).toNat
  · rw [if_pos h1]; unfold kindOf; omega
  rw [if_neg h1]
  by_cases h2 : i - (many a).toNat < (many b).toNat
  · rw [if_pos h2]; unfold kindOf; omega
  rw [if_neg h2]
  by_cases h3 : i - (many a).toNat - (many b).toNat < (many c).toNat
  · rw [if_pos h3]; unfold kindOf; omega
  rw [if_neg h3]
  by_cases h4 : i - (many a).toNat - (many b).toNat - (many c).toNat < (many d).toNat
  · rw [if_pos h4]; unfold kindOf; omega
  rw [if_neg h4, if_pos (by omega)]
  show (4 : Int) = _
  unfold kindOf; omega
end Go.Proofs.YthoiaffeenhfgaaGreat.Lay

namespace Go.Proofs.YthoiaffeenhfgaaGreat.Lay
open Go.RowKit
set_option linter.unusedVariables false
theorem bcell {W w1 : World} (hb : Below W.heap.size W w1) : (∀ b o, b < W.heap.size → w1.cell? ⟨b, o, none⟩ = W.cell? ⟨b, o, none⟩) ∧ (∀ b o, b < W.heap.size → w1.frozen? ⟨b, o, none⟩ = W.frozen? ⟨b, o, none⟩) :=
  ⟨fun b o h => hb.cell (p := ⟨b, o, none⟩) h, fun b o h => hb.frozen (p := ⟨b, o, none⟩) h⟩
theorem mul_bd {x y a b : Int} (hx : 0 ≤ x) (hxa : x ≤ a) (hy : 0 ≤ y) (hyb : y ≤ b) : 0 ≤ x * y ∧ x * y ≤ a * b :=
  ⟨Int.mul_nonneg hx hy, Int.mul_le_mul hxa hyb hy (Int.le_trans hx hxa)⟩
theorem within_yes (n lo hi : Int) (h : lo ≤ n ∧ n ≤ hi) (w : World) : Calls Tryz.prog 77 #[.int .i64 n, .int .i64 lo, .int .i64 hi] w fun e w' => e = .returned (.bool true) ∧ w = w' := by
  obtain ⟨h1, h2⟩ := h
  go_enter Tryz.func77, Tryz.ntmps77
  go_wp2
  go_ret
  exact ⟨rfl, rfl⟩
theorem within_no (n lo hi : Int) (h : ¬ (lo ≤ n ∧ n ≤ hi)) (w : World) : Calls Tryz.prog 77 #[.int .i64 n, .int .i64 lo, .int .i64 hi] w fun e w' => e = .returned (.bool false) ∧ w = w' := by
  by_cases h1 : lo ≤ n
  · have h2 : ¬ n ≤ hi := fun h3 => h ⟨h1, h3⟩
    clear h
    go_enter Tryz.func77, Tryz.ntmps77
    go_wp2
    go_ret
    exact ⟨rfl, rfl⟩
  · clear h
    go_enter Tryz.func77, Tryz.ntmps77
    go_wp2
    go_ret
    exact ⟨rfl, rfl⟩
theorem rin_any (n lo hi : Int) (w : World) : Calls Tryz.prog 76 #[.int .i64 n, .int .i64 lo, .int .i64 hi] w fun e w' => e = .returned (.bool (decide (lo ≤ n ∧ n ≤ hi))) ∧ w = w' := by
  by_cases h : lo ≤ n ∧ n ≤ hi
  · rw [decide_eq_true h]
    obtain ⟨h1, h2⟩ := h
    go_enter Tryz.func76, Tryz.ntmps76
    go_wp2
    go_ret
    exact ⟨rfl, rfl⟩
  · rw [decide_eq_false h]
    by_cases h1 : lo ≤ n
    · have h2 : ¬ n ≤ hi := fun h3 => h ⟨h1, h3⟩
      clear h
      go_enter Tryz.func76, Tryz.ntmps76
      go_wp2
      go_ret
      exact ⟨rfl, rfl⟩
    · clear h
      go_enter Tryz.func76, Tryz.ntmps76
      go_wp2
      go_ret
      exact ⟨rfl, rfl⟩
def piecesOf (n d : Int) : Int := if d < 1 then 0 else (n + d - 1) / d
theorem pieces_any (n d : Int) (h0 : 0 ≤ n) (h1 : n ≤ 1000) (h2 : d ≤ 1000) (w : World) : Calls Tryz.prog 75 #[.int .i64 n, .int .i64 d] w fun e w' => e = .returned (.int .i64 (piecesOf n d)) ∧ w = w' := by
  by_cases h : d < 1
  · have hp : piecesOf n d = 0 := by unfold piecesOf; rw [if_pos h]
    rw [hp]; clear hp
    go_enter Tryz.func75, Tryz.ntmps75
    go_wp2
    go_ret
    exact ⟨rfl, rfl⟩
  · have hp : (n + d - 1).tdiv d = piecesOf n d := by unfold piecesOf; rw [if_neg h, Int.tdiv_eq_ediv_of_nonneg (by omega)]
    have hq : 0 ≤ piecesOf n d ∧ piecesOf n d ≤ 2000 := by
      unfold piecesOf; rw [if_neg h]
      exact ⟨Int.ediv_nonneg (by omega) (by omega), Int.le_trans (Int.ediv_le_self _ (by omega)) (by omega)⟩
    obtain ⟨q0, q1⟩ := hq
    have hd : ¬ d = 0 := by omega
    have h3 : 1 ≤ d := by omega
    clear h
    go_enter Tryz.func75, Tryz.ntmps75
    go_wp2
    go_ret
    exact ⟨rfl, rfl⟩
def endL (at_ mn wd it : Int) : Int := at_ + mn * (wd + it)
abbrev rowV (at_ fr mn wd it : Int) : Value := .agg #[.int .i64 at_, .int .i64 fr, .int .i64 mn, .int .i64 wd, .int .i64 it]
structure RowOk (at_ fr mn wd it : Int) : Prop where
  a0 : 0 ≤ at_
  a1 : at_ ≤ 100000
  f0 : 0 ≤ fr
  f1 : fr ≤ 1000
  m0 : 0 ≤ mn
  m1 : mn ≤ 1000
  w0 : 0 ≤ wd
  w1 : wd ≤ 10
  i0 : 0 ≤ it
  i1 : it ≤ 100
theorem end_any {at_ fr mn wd it : Int} (h : RowOk at_ fr mn wd it) (w : World) : Calls Tryz.prog 70 #[rowV at_ fr mn wd it] w fun e w' => e = .returned (.int .i64 (endL at_ mn wd it)) ∧ Below w.heap.size w w' := by
  obtain ⟨a0, a1, f0, f1, m0, m1, w0, w1, i0, i1⟩ := h
  obtain ⟨p0, p1⟩ := mul_bd m0 m1 (by omega : 0 ≤ wd + it) (by omega : wd + it ≤ 110)
  go_enter Tryz.func70, Tryz.ntmps70
  go_wp2
  go_ret
  exact ⟨rfl, (Below.refl _ _).alloc (Nat.le_refl _) _⟩
set_option maxHeartbeats 400000 in
theorem then_any {at_ fr mn wd it : Int} (f m s i : Int) (h : RowOk at_ fr mn wd it) (w : World) : Calls Tryz.prog 42 #[rowV at_ fr mn wd it, .int .i64 f, .int .i64 m, .int .i64 s, .int .i64 i] w fun e w' => e = .returned (rowV (endL at_ mn wd it) f m s i) ∧ Below w.heap.size w w' := by
  have H := Lib.hid h
  have HB := Below.refl w.heap.size w
  go_enter Tryz.func42, Tryz.ntmps42
  go_wp2_with (go_at_call 70; (with_reducible refine (end_any H.out _).mono ?_); rintro e w1 ⟨rfl, hb1⟩; obtain ⟨hc, hf⟩ := bcell hb1)
  have HB1 := below_step (below_alloc0 (below_alloc0 HB _) _) (by simp; omega) hb1
  have hz := hb1.size
  refine bodyPost_ret (v := rowV (endL at_ mn wd it) f m s i) (by simp [results, Tryz.results42, go_sem, hc]) rfl ⟨rfl, ?_⟩
  go_grown
def wordL (at_ fr mn wd it i j : Int) : Int := if fr ≤ i ∧ i ≤ fr + mn - 1 then at_ + (i - fr) * (wd + it) + j else -1
def itemL (at_ fr mn wd it i j : Int) : Int := if 0 ≤ j ∧ j ≤ it - 1 then wordL at_ fr mn wd it i (wd + j) else -1
theorem word_any {at_ fr mn wd it : Int} (i j : Int) (h : RowOk at_ fr mn wd it) (hi : (Lit.int .i64 i).wf = true) (hj : 0 ≤ j ∧ j ≤ 1000) (w : World) : Calls Tryz.prog 71 #[rowV at_ fr mn wd it, .int .i64 i, .int .i64 j] w fun e w' => e = .returned (.int .i64 (wordL at_ fr mn wd it i j)) ∧ Below w.heap.size w w' := by
  obtain ⟨a0, a1, f0, f1, m0, m1, w0, w1, i0, i1⟩ := h
  obtain ⟨j0, j1⟩ := hj
  obtain ⟨x0, x1⟩ := bounds_i64 hi; clear hi
  by_cases hw : fr ≤ i ∧ i ≤ fr + mn - 1
  · have hL : wordL at_ fr mn wd it i j = at_ + (i - fr) * (wd + it) + j := by unfold wordL; rw [if_pos hw]
    rw [hL]; clear hL
    obtain ⟨p0, p1⟩ := mul_bd (by omega : 0 ≤ i - fr) (by omega : i - fr ≤ 1000) (by omega : 0 ≤ wd + it) (by omega : wd + it ≤ 110)
    have HW := Lib.hid hw
    have hw1 := hw.1
    have hw2 := hw.2
    clear hw
    go_enter Tryz.func71, Tryz.ntmps71
    go_wp2_with (go_at_call 77; (with_reducible refine (within_yes _ _ _ HW.out _).mono ?_); rintro e w1 ⟨rfl, rfl⟩)
    go_ret
    exact ⟨rfl, (Below.refl _ _).alloc (Nat.le_refl _) _⟩
  · have hL : wordL at_ fr mn wd it i j = -1 := by unfold wordL; rw [if_neg hw]
    rw [hL]; clear hL
    have HW := Lib.hid hw
    clear hw
    go_enter Tryz.func71, Tryz.ntmps71
    go_wp2_with (go_at_call 77; (with_reducible refine (within_no _ _ _ HW.out _).mono ?_); rintro e w1 ⟨rfl, rfl⟩)
    go_ret
    exact ⟨rfl, (Below.refl _ _).alloc (Nat.le_refl _) _⟩
theorem item_any {at_ fr mn wd it : Int} (i j : Int) (h : RowOk at_ fr mn wd it) (hi : (Lit.int .i64 i).wf = true) (w : World) : Calls Tryz.prog 69 #[rowV at_ fr mn wd it, .int .i64 i, .int .i64 j] w fun e w' => e = .returned (.int .i64 (itemL at_ fr mn wd it i j)) ∧ Below w.heap.size w w' := by
  have H := Lib.hid h
  obtain ⟨a0, a1, f0, f1, m0, m1, w0, w1, i0, i1⟩ := h
  have HI := Lib.hid hi; clear hi
  by_cases hw : 0 ≤ j ∧ j ≤ it - 1
  · have hL : itemL at_ fr mn wd it i j = wordL at_ fr mn wd it i (wd + j) := by unfold itemL; rw [if_pos hw]
    rw [hL]; clear hL
    have HW := Lib.hid hw
    have hw1 := hw.1
    have hw2 := hw.2
    clear hw
    go_enter Tryz.func69, Tryz.ntmps69
    go_wp2_with (first
      | (go_at_call 77; (with_reducible refine (within_yes _ _ _ HW.out _).mono ?_); rintro e w1 ⟨rfl, rfl⟩)
      | (go_at_call 71; (with_reducible refine (word_any _ _ H.out HI.out (by omega) _).mono ?_); rintro e w1 ⟨rfl, hb1⟩))
    go_ret
    exact ⟨rfl, below_step ((Below.refl _ _).alloc (Nat.le_refl _) _) (by simp) hb1⟩
  · have hL : itemL at_ fr mn wd it i j = -1 := by unfold itemL; rw [if_neg hw]
    rw [hL]; clear hL
    have HW := Lib.hid hw
    clear hw
    go_enter Tryz.func69, Tryz.ntmps69
    go_wp2_with (go_at_call 77; (with_reducible refine (within_no _ _ _ HW.out _).mono ?_); rintro e w1 ⟨rfl, rfl⟩)
    go_ret
    exact ⟨rfl, (Below.refl _ _).alloc (Nat.le_refl _) _⟩
set_option maxHeartbeats 400000 in
theorem join_any (b x y : Int) (hb : 1 ≤ b) (hb2 : b ≤ 18446744073709551615) (hx : 0 ≤ x) (hx2 : x ≤ 18446744073709551615) (hy : 0 ≤ y) (hy2 : y ≤ 18446744073709551615) (w : World) :
    Calls Tryz.prog 63 #[.int .u64 b, .agg #[.int .u64 x, .int .u64 y]] w fun e w' => e = .returned (.int .u64 (IntKind.u64.wrap (IntKind.u64.wrap (x * b) + y % b))) ∧ Below w.heap.size w w' := by
  go_enter Tryz.func63, Tryz.ntmps63
  go_wp2
  go_quiet (fail)
  go_wp2
  go_ret
  exact ⟨rfl, below_drewN ((Below.refl _ _).alloc (Nat.le_refl _) _) _⟩
set_option maxHeartbeats 400000 in
theorem pair_any (y : Int) (hy : 0 ≤ y) (hy2 : y ≤ 4294967295) (w : World) :
    Calls Tryz.prog 31 #[.int .u32 0, .int .u32 y] w fun e w' => e = .returned (.int .u64 y) ∧ Below w.heap.size w w' := by
  go_enter Tryz.func31, Tryz.ntmps31
  go_wp2_with (go_at_call 63; refine (join_any 4294967296 0 y (by omega) (by omega) (by omega) (by omega) hy (by omega) _).mono ?_; rintro e w1 ⟨rfl, hb⟩)
  go_ret
  exact ⟨ret_int (by rw [IntKind.wrap_u64, IntKind.wrap_u64]; omega), hb⟩
end Go.Proofs.YthoiaffeenhfgaaGreat.Lay

namespace Go.Proofs.YthoiaffeenhfgaaGreat.Lay
open Go.RowKit
set_option linter.unusedVariables false
structure Cfg where
  a : Int
  b : Int
  c : Int
  d : Int
  e : Int
  mr : Int
  mu : Int
  dq : Int
  ch : Int
  bf : Int
  rt : Int
  sw : Int
abbrev cfgV (c : Cfg) : Value := .agg #[.int .i64 c.a, .int .i64 c.b, .int .i64 c.c, .int .i64 c.d, .int .i64 c.e, .int .i64 c.mr, .int .i64 c.mu, .int .i64 c.dq, .int .i64 c.ch, .int .i64 c.bf, .int .i64 c.rt, .int .i64 c.sw]
abbrev cfgO (c : Cfg) (t : TypeId) : Obj := .cells #[.int .i64 c.a, .int .i64 c.b, .int .i64 c.c, .int .i64 c.d, .int .i64 c.e, .int .i64 c.mr, .int .i64 c.mu, .int .i64 c.dq, .int .i64 c.ch, .int .i64 c.bf, .int .i64 c.rt, .int .i64 c.sw] t
def nodesN (c : Cfg) : Int := c.a + c.b + c.c + c.d + c.e
structure OkC (c : Cfg) : Prop where
  a0 : 0 ≤ c.a
  a1 : c.a ≤ 12
  b0 : 0 ≤ c.b
  b1 : c.b ≤ 12
  c0 : 0 ≤ c.c
  c1 : c.c ≤ 12
  d0 : 0 ≤ c.d
  d1 : c.d ≤ 12
  e0 : 0 ≤ c.e
  e1 : c.e ≤ 12
  s0 : c.a + c.b + c.c + c.d + c.e ≠ 0
  k0 : 1 ≤ c.mr
  k1 : c.mr ≤ 4
  u0 : 1 ≤ c.mu
  u1 : c.mu ≤ 4
  q0 : 2 ≤ c.dq
  q1 : c.dq ≤ 8
  h0 : 1 ≤ c.ch
  h1 : c.ch ≤ 16
  f0 : 1 ≤ c.bf
  f1 : c.bf ≤ 4
  r0 : 1 ≤ c.rt
  r1 : c.rt ≤ 8
  w0 : 1 ≤ c.sw
  w1 : c.sw ≤ 16
theorem nodes_ok {c : Cfg} (h : OkC c) (w : World) : Calls Tryz.prog 64 #[.agg #[.int .i64 c.a, .int .i64 c.b, .int .i64 c.c, .int .i64 c.d, .int .i64 c.e]] w fun r w' => r = .returned (.int .i64 (nodesN c)) ∧ Below w.heap.size w w' :=
  (nodes_any _ _ _ _ _ w).mono fun _ _ ⟨he, hb⟩ => ⟨by rw [he, many_is ⟨h.a0, h.a1⟩, many_is ⟨h.b0, h.b1⟩, many_is ⟨h.c0, h.c1⟩, many_is ⟨h.d0, h.d1⟩, many_is ⟨h.e0, h.e1⟩]; rfl, hb⟩
@[go_sem] theorem ix22_0 (a b c d e : Int) (w : World) : (Instr.index 22 (.agg #[.int .i64 a, .int .i64 b, .int .i64 c, .int .i64 d, .int .i64 e]) (.int .i64 0)).run Tryz.prog w = .ok (.int .i64 a) w := by kernel_rfl
@[go_sem] theorem ix22_1 (a b c d e : Int) (w : World) : (Instr.index 22 (.agg #[.int .i64 a, .int .i64 b, .int .i64 c, .int .i64 d, .int .i64 e]) (.int .i64 1)).run Tryz.prog w = .ok (.int .i64 b) w := by kernel_rfl
@[go_sem] theorem ix22_2 (a b c d e : Int) (w : World) : (Instr.index 22 (.agg #[.int .i64 a, .int .i64 b, .int .i64 c, .int .i64 d, .int .i64 e]) (.int .i64 2)).run Tryz.prog w = .ok (.int .i64 c) w := by kernel_rfl
@[go_sem] theorem ix22_3 (a b c d e : Int) (w : World) : (Instr.index 22 (.agg #[.int .i64 a, .int .i64 b, .int .i64 c, .int .i64 d, .int .i64 e]) (.int .i64 3)).run Tryz.prog w = .ok (.int .i64 d) w := by kernel_rfl
@[go_sem] theorem ix22_4 (a b c d e : Int) (w : World) : (Instr.index 22 (.agg #[.int .i64 a, .int .i64 b, .int .i64 c, .int .i64 d, .int .i64 e]) (.int .i64 4)).run Tryz.prog w = .ok (.int .i64 e) w := by kernel_rfl
set_option maxHeartbeats 1000000 in
theorem check_yes {c : Cfg} (h : OkC c) (w : World) : Calls Tryz.prog 40 #[cfgV c] w fun r w' => r = .returned (.int .i64 0) ∧ Below w.heap.size w w' := by
  have H := Lib.hid h
  obtain ⟨a0, a1, b0, b1, c0, c1, d0, d1, e0, e1, s0, k0, k1, u0, u1, q0, q1, h0, h1, f0, f1, r0, r1, w0, w1⟩ := h
  have hn : (nodesN c == 0) = false := by unfold nodesN; rw [beq_eq_false_iff_ne]; exact s0
  clear s0
  go_enter Tryz.func40, Tryz.ntmps40
  go_wp2_with (go_at_call 77; (with_reducible refine (within_yes _ _ _ (by omega) _).mono ?_); rintro r w1 ⟨rfl, rfl⟩)
  refine wp_loop_rounds 6 ?_
  rw [rounds_succ]; go_wp2_with (go_at_call 77; (with_reducible refine (within_yes _ _ _ (by omega) _).mono ?_); rintro r w1 ⟨rfl, rfl⟩)
  rw [rounds_succ]; go_wp2_with (go_at_call 77; (with_reducible refine (within_yes _ _ _ (by omega) _).mono ?_); rintro r w1 ⟨rfl, rfl⟩)
  rw [rounds_succ]; go_wp2_with (go_at_call 77; (with_reducible refine (within_yes _ _ _ (by omega) _).mono ?_); rintro r w1 ⟨rfl, rfl⟩)
  rw [rounds_succ]; go_wp2_with (go_at_call 77; (with_reducible refine (within_yes _ _ _ (by omega) _).mono ?_); rintro r w1 ⟨rfl, rfl⟩)
  rw [rounds_succ]; go_wp2_with (go_at_call 77; (with_reducible refine (within_yes _ _ _ (by omega) _).mono ?_); rintro r w1 ⟨rfl, rfl⟩)
  rw [rounds_succ]; go_wp2_with (go_at_call 64; (with_reducible refine (nodes_ok H.out _).mono ?_); rintro r w1 ⟨rfl, hb1⟩)
  go_ret
  exact ⟨rfl, below_step ((Below.refl _ _).alloc (Nat.le_refl _) _) (by simp) hb1⟩
set_option maxHeartbeats 400000 in
theorem numbersOf_any (c : Cfg) (w : World) : Calls Tryz.prog 41 #[cfgV c] w fun r w' => r = .returned (cfgV c) ∧ Below w.heap.size w w' := by
  go_enter Tryz.func41, Tryz.ntmps41
  go_wp2
  exact bodyPost_ret (v := cfgV c) (by simp [results, Tryz.results41, go_sem]) rfl ⟨rfl, by go_grown⟩
set_option maxHeartbeats 400000 in
theorem config_any (c : Cfg) (w : World) : Calls Tryz.prog 80 #[cfgV c] w fun r w' => r = .returned (cfgV c) ∧ Below w.heap.size w w' := by
  go_enter Tryz.func80, Tryz.ntmps80
  go_wp2
  exact bodyPost_ret (v := cfgV c) (by simp [results, Tryz.results80, go_sem]) rfl ⟨rfl, by go_grown⟩
set_option maxHeartbeats 400000 in
theorem model_any (c : Cfg) (w : World) : Calls Tryz.prog 39 #[cfgV c] w fun r w' => r = .returned (cfgV c) ∧ Below w.heap.size w w' := by
  go_enter Tryz.func39, Tryz.ntmps39
  go_wp2
  exact bodyPost_ret (v := cfgV c) (by simp [results, Tryz.results39, go_sem]) rfl ⟨rfl, by go_grown⟩
end Go.Proofs.YthoiaffeenhfgaaGreat.Lay
