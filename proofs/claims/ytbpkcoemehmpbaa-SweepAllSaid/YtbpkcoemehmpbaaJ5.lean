/- The functions of the package sizes, and the document's own, walked. The document's own list of cells, walked. Small functions of the package layout, walked: pieces, rows, their places; and a word of two numbers. -/
import Derived.Test.YtbpkcoemehmpbaaJ4
import Derived.OpenShut
import Derived.OwnWalk
import Derived.Laws.AppendOwn
namespace Go.Proofs.Ytbpkcoemehmpbaa.Lay
open Go.RowKit
set_option linter.unusedVariables false

def slotsOf (k : Int) : Int := if k = 0 then 1 else if k = 1 then 2 else if k = 2 then 4 else if k = 3 then 8 else if k = 4 then 16 else 0
theorem slots_bd (k : Int) : 0 ≤ slotsOf k ∧ slotsOf k ≤ 16 := by unfold slotsOf; omega

set_option maxHeartbeats 400000 in
theorem slots_any (k : Int) (w : World) :
    Calls Try.prog 37 #[.int .i64 k] w fun e w' => e = .returned (.int .i64 (slotsOf k)) ∧ w = w' := by
  by_cases h : 0 ≤ k ∧ k < 5
  · have : k = 0 ∨ k = 1 ∨ k = 2 ∨ k = 3 ∨ k = 4 := by omega
    clear h
    rcases this with rfl | rfl | rfl | rfl | rfl
    all_goals
      go_enter Try.func37, Try.ntmps37
      go_wp2
      go_ret
      exact ⟨rfl, rfl⟩
  · have hs : slotsOf k = 0 := by unfold slotsOf; omega
    have HS := Lib.hid hs; clear hs
    by_cases h1 : k < 0
    · clear h
      go_enter Try.func37, Try.ntmps37
      go_wp2
      go_ret
      exact ⟨ret_int HS.out.symm, rfl⟩
    · have h2 : 5 ≤ k := by omega
      have h3 : 0 ≤ k := by omega
      clear h h1
      go_enter Try.func37, Try.ntmps37
      go_wp2
      go_ret
      exact ⟨ret_int HS.out.symm, rfl⟩

/-- How many cells of a class count. -/
def many (c : Int) : Int := imin (imax c 0) 12
theorem many_bd (c : Int) : 0 ≤ many c ∧ many c ≤ 12 := by unfold many imin imax; omega
theorem many_is {c : Int} (h : 0 ≤ c ∧ c ≤ 12) : many c = c := by unfold many imin imax; omega

set_option maxHeartbeats 1000000 in
theorem within_any (a b c d e : Int) (w : World) :
    Calls Try.prog 67 #[.agg #[.int .i64 a, .int .i64 b, .int .i64 c, .int .i64 d, .int .i64 e]] w fun r w' => r = .returned (.agg #[.int .i64 (many a), .int .i64 (many b), .int .i64 (many c), .int .i64 (many d), .int .i64 (many e)]) ∧ Below w.heap.size w w' := by
  go_enter Try.func67, Try.ntmps67
  go_wp2
  refine wp_loop_rounds 6 ?_
  rw [rounds_succ]; go_wp2
  rw [rounds_succ]; go_wp2
  rw [rounds_succ]; go_wp2
  rw [rounds_succ]; go_wp2
  rw [rounds_succ]; go_wp2
  rw [rounds_succ]; go_wp2
  exact bodyPost_ret (v := .agg #[.int .i64 (many a), .int .i64 (many b), .int .i64 (many c), .int .i64 (many d), .int .i64 (many e)]) (by simp [results, Try.results67, go_sem, many]) rfl ⟨rfl, by go_grown⟩

set_option maxHeartbeats 1000000 in
theorem nodes_any (a b c d e : Int) (w : World) :
    Calls Try.prog 44 #[.agg #[.int .i64 a, .int .i64 b, .int .i64 c, .int .i64 d, .int .i64 e]] w fun r w' => r = .returned (.int .i64 (many a + many b + many c + many d + many e)) ∧ Below w.heap.size w w' := by
  obtain ⟨a0, a1⟩ := many_bd a
  obtain ⟨b0, b1⟩ := many_bd b
  obtain ⟨c0, c1⟩ := many_bd c
  obtain ⟨d0, d1⟩ := many_bd d
  obtain ⟨e0, e1⟩ := many_bd e
  go_enter Try.func44, Try.ntmps44
  go_wp2_with (go_at_call 67; (with_reducible refine (within_any _ _ _ _ _ _).mono ?_); rintro r w1 ⟨rfl, hb⟩; have hb := below_step ((Below.refl _ _).alloc (Nat.le_refl _) _) (by simp) hb)
  refine wp_loop_rounds 6 ?_
  rw [rounds_succ]; go_wp2
  rw [rounds_succ]; go_wp2
  rw [rounds_succ]; go_wp2
  rw [rounds_succ]; go_wp2
  rw [rounds_succ]; go_wp2
  rw [rounds_succ]; go_wp2
  go_ret
  exact ⟨rfl, hb.alloc hb.size _⟩

/-- The class of a cell. -/
def kindOf (a b c d e v : Int) : Int := if v < 1 then -1 else if v ≤ many a then 0 else if v ≤ many a + many b then 1 else if v ≤ many a + many b + many c then 2 else if v ≤ many a + many b + many c + many d then 3 else if v ≤ many a + many b + many c + many d + many e then 4 else -1

set_option maxHeartbeats 2000000 in
theorem class_any (a b c d e v : Int) (w : World) :
    Calls Try.prog 49 #[.agg #[.int .i64 a, .int .i64 b, .int .i64 c, .int .i64 d, .int .i64 e], .int .i64 v] w fun r w' => r = .returned (.int .i64 (kindOf a b c d e v)) ∧ Below w.heap.size w w' := by
  obtain ⟨a0, a1⟩ := many_bd a
  obtain ⟨b0, b1⟩ := many_bd b
  obtain ⟨c0, c1⟩ := many_bd c
  obtain ⟨d0, d1⟩ := many_bd d
  obtain ⟨e0, e1⟩ := many_bd e
  by_cases h : v < 1
  · go_enter Try.func49, Try.ntmps49
    go_wp2
    go_ret
    refine ⟨ret_int (by unfold kindOf; omega), ?_⟩
    exact (Below.refl _ _).alloc (Nat.le_refl _) _
  · go_enter Try.func49, Try.ntmps49
    go_wp2_with (go_at_call 67; (with_reducible refine (within_any _ _ _ _ _ _).mono ?_); rintro r w1 ⟨rfl, hb⟩; have hb := below_step ((Below.refl _ _).alloc (Nat.le_refl _) _) (by simp) hb)
    refine wp_loop_rounds 6 ?_
    repeat any_goals (rw [rounds_succ]; go_wp2)
    all_goals go_ret
    all_goals exact ⟨ret_int (by unfold kindOf; omega), hb.alloc hb.size _⟩

end Go.Proofs.Ytbpkcoemehmpbaa.Lay

namespace Go.Proofs.Ytbpkcoemehmpbaa.Lay
open Go.RowKit

/-- How many cells the class k has, of five numbers. -/
def cnt (a b c d e : Int) (k : Nat) : Int := if k = 0 then a else if k = 1 then b else if k = 2 then c else if k = 3 then d else e
/-- The classes of the cells of the first k classes. -/
def pre (a b c d e : Int) : Nat → List Int
  | 0 => []
  | k + 1 => pre a b c d e k ++ List.replicate (many (cnt a b c d e k)).toNat (k : Int)

theorem pre_len (a b c d e : Int) : ∀ k : Nat, (pre a b c d e k).length ≤ 12 * k
  | 0 => by simp [pre]
  | k + 1 => by
    have := pre_len a b c d e k
    have := many_bd (cnt a b c d e k)
    simp [pre]; omega

/-- A row of the call's own, which holds these numbers. -/
def Own (B : Nat) (w0 wr : World) (v : Value) (l : List Int) : Prop :=
  wr.ownsRow (B + 1) 3 1 v l.length (l.map (Value.int .i64)) ∧ Below (B + 1) w0 wr

theorem own_step {B : Nat} {w0 wr w' : World} {v v' : Value} {l : List Int} {k : Int} {o : Obj} (h : Own B w0 wr v l) (hB : B + 1 ≤ w0.heap.size)
    (hown : w'.ownsRow (B + 1) 3 1 v' (l.length + 1) (l.map (Value.int .i64) ++ [Value.int .i64 k])) (hg : (wr.alloc o).grownBy w' v.ownBlock) : Own B w0 w' v' (l ++ [k]) := by
  refine ⟨by simpa using hown, ?_⟩
  exact (h.2.alloc (Nat.le_trans hB h.2.size) o).grown hg (Nat.le_trans hB (by have := h.2.size; simp; omega)) (fun b hb => (h.1.lt b hb).1)

theorem pre5 (a b c d e : Int) : pre a b c d e 5 = List.replicate (many a).toNat 0 ++ (List.replicate (many b).toNat 1 ++ (List.replicate (many c).toNat 2 ++ (List.replicate (many d).toNat 3 ++ List.replicate (many e).toNat 4))) := by
  simp [pre, cnt, List.append_assoc]

theorem pre_length (a b c d e : Int) : ((pre a b c d e 5).length : Int) = many a + many b + many c + many d + many e := by
  have := many_bd a; have := many_bd b; have := many_bd c; have := many_bd d; have := many_bd e
  rw [pre5]; simp only [List.length_append, List.length_replicate]; omega

theorem rep_at (n : Nat) (k : Int) (l : List Int) (i : Nat) : (List.replicate n k ++ l).getD i 0 = if i < n then k else l.getD (i - n) 0 := by
  rw [List.getD_eq_getElem?_getD, List.getElem?_append]
  simp only [List.length_replicate, List.getElem?_replicate]
  split <;> simp

theorem pre_at (a b c d e : Int) (i : Nat) (h : i < (pre a b c d e 5).length) : (pre a b c d e 5).getD i 0 = kindOf a b c d e (i + 1) := by
  have := many_bd a; have := many_bd b; have := many_bd c; have := many_bd d; have := many_bd e
  have hl := pre_length a b c d e
  rw [pre5, rep_at, rep_at, rep_at, rep_at, List.getD_eq_getElem?_getD, List.getElem?_replicate]
  by_cases h1 : i < (many a).toNat
  · rw [if_pos h1]; unfold kindOf; omega
  rw [if_neg h1]
  by_cases h2 : i - (many a).toNat < (many b).toNat
  · rw [if_pos h2]; unfold kindOf; omega
  rw [if_neg h2]
  by_cases h3 : i - (many a).toNat - (many b).toNat < (many c).toNat
  · rw [if_pos h3]; unfold kindOf; omega
  rw [if_neg h3]
  by_cases h4 : i - (many a).toNat - (many b).toNat - (many c).toNat < (many d).toNat
  · rw [if_pos h4]; unfold kindOf; omega
  rw [if_neg h4, if_pos (by omega)]
  show (4 : Int) = _
  unfold kindOf; omega

theorem own_slice {B : Nat} {w0 wr : World} {v : Value} {l : List Int} (h : Own B w0 wr v l) :
    (l = [] ∧ v = .slice none 0 0) ∨ ∃ g cap, v = .slice (some ⟨g, 0, none⟩) l.length cap ∧ l.length ≤ cap ∧ cap ≤ maxLen ∧ g < wr.heap.size ∧ B + 1 ≤ g ∧ ∀ i, i < l.length → wr.cell? ⟨g, i, none⟩ = some (.int .i64 (l.getD i 0)) := by
  obtain ⟨ho, hb⟩ := h
  have hlt := ho.lt
  have hcell := fun g (hg : v.ownBlock = some g) => ho.cells hg
  obtain ⟨hl, ⟨h1, h2⟩ | ⟨g, cap, cur, h1, h2, h3, h4, h5, h6, h7⟩⟩ := ho
  · exact .inl ⟨List.eq_nil_of_length_eq_zero h2, h1⟩
  · refine .inr ⟨g, cap, h1, h4, h5, (hlt g (by rw [h1]; rfl)).2, h2, fun i hi => ?_⟩
    have := hcell g (by rw [h1]; rfl) i (.int .i64 (l.getD i 0)) (by simp [hi])
    cases i <;> simpa [Addr.add] using this


end Go.Proofs.Ytbpkcoemehmpbaa.Lay

namespace Go.Proofs.Ytbpkcoemehmpbaa.Lay
open Go.RowKit
set_option linter.unusedVariables false

theorem bcell {W w1 : World} (hb : Below W.heap.size W w1) : (∀ b o, b < W.heap.size → w1.cell? ⟨b, o, none⟩ = W.cell? ⟨b, o, none⟩) ∧ (∀ b o, b < W.heap.size → w1.frozen? ⟨b, o, none⟩ = W.frozen? ⟨b, o, none⟩) :=
  ⟨fun b o h => hb.cell (p := ⟨b, o, none⟩) h, fun b o h => hb.frozen (p := ⟨b, o, none⟩) h⟩

theorem mul_bd {x y a b : Int} (hx : 0 ≤ x) (hxa : x ≤ a) (hy : 0 ≤ y) (hyb : y ≤ b) : 0 ≤ x * y ∧ x * y ≤ a * b :=
  ⟨Int.mul_nonneg hx hy, Int.mul_le_mul hxa hyb hy (Int.le_trans hx hxa)⟩

theorem within_yes (n lo hi : Int) (h : lo ≤ n ∧ n ≤ hi) (w : World) : Calls Try.prog 60 #[.int .i64 n, .int .i64 lo, .int .i64 hi] w fun e w' => e = .returned (.bool true) ∧ w = w' := by
  obtain ⟨h1, h2⟩ := h
  go_enter Try.func60, Try.ntmps60
  go_wp2
  go_ret
  exact ⟨rfl, rfl⟩
theorem within_no (n lo hi : Int) (h : ¬ (lo ≤ n ∧ n ≤ hi)) (w : World) : Calls Try.prog 60 #[.int .i64 n, .int .i64 lo, .int .i64 hi] w fun e w' => e = .returned (.bool false) ∧ w = w' := by
  by_cases h1 : lo ≤ n
  · have h2 : ¬ n ≤ hi := fun h3 => h ⟨h1, h3⟩
    clear h
    go_enter Try.func60, Try.ntmps60
    go_wp2
    go_ret
    exact ⟨rfl, rfl⟩
  · clear h
    go_enter Try.func60, Try.ntmps60
    go_wp2
    go_ret
    exact ⟨rfl, rfl⟩
/-- Whether a number is one from low to high. -/
theorem in_any (n lo hi : Int) (w : World) : Calls Try.prog 60 #[.int .i64 n, .int .i64 lo, .int .i64 hi] w fun e w' => e = .returned (.bool (decide (lo ≤ n ∧ n ≤ hi))) ∧ w = w' := by
  by_cases h : lo ≤ n ∧ n ≤ hi
  · rw [decide_eq_true h]; exact within_yes n lo hi h w
  · rw [decide_eq_false h]; exact within_no n lo hi h w
theorem rin_any (n lo hi : Int) (w : World) : Calls Try.prog 59 #[.int .i64 n, .int .i64 lo, .int .i64 hi] w fun e w' => e = .returned (.bool (decide (lo ≤ n ∧ n ≤ hi))) ∧ w = w' := by
  by_cases h : lo ≤ n ∧ n ≤ hi
  · rw [decide_eq_true h]
    obtain ⟨h1, h2⟩ := h
    go_enter Try.func59, Try.ntmps59
    go_wp2
    go_ret
    exact ⟨rfl, rfl⟩
  · rw [decide_eq_false h]
    by_cases h1 : lo ≤ n
    · have h2 : ¬ n ≤ hi := fun h3 => h ⟨h1, h3⟩
      clear h
      go_enter Try.func59, Try.ntmps59
      go_wp2
      go_ret
      exact ⟨rfl, rfl⟩
    · clear h
      go_enter Try.func59, Try.ntmps59
      go_wp2
      go_ret
      exact ⟨rfl, rfl⟩

/-- How many pieces of at most 'of' there are of n. -/
def piecesOf (n d : Int) : Int := if d < 1 then 0 else (n + d - 1) / d
theorem pieces_any (n d : Int) (h0 : 0 ≤ n) (h1 : n ≤ 1000) (h2 : d ≤ 1000) (w : World) : Calls Try.prog 43 #[.int .i64 n, .int .i64 d] w fun e w' => e = .returned (.int .i64 (piecesOf n d)) ∧ w = w' := by
  by_cases h : d < 1
  · have hp : piecesOf n d = 0 := by unfold piecesOf; rw [if_pos h]
    rw [hp]; clear hp
    go_enter Try.func43, Try.ntmps43
    go_wp2
    go_ret
    exact ⟨rfl, rfl⟩
  · have hp : (n + d - 1).tdiv d = piecesOf n d := by unfold piecesOf; rw [if_neg h, Int.tdiv_eq_ediv_of_nonneg (by omega)]
    have hq : 0 ≤ piecesOf n d ∧ piecesOf n d ≤ 2000 := by
      unfold piecesOf; rw [if_neg h]
      exact ⟨Int.ediv_nonneg (by omega) (by omega), Int.le_trans (Int.ediv_le_self _ (by omega)) (by omega)⟩
    obtain ⟨q0, q1⟩ := hq
    have hd : ¬ d = 0 := by omega
    have h3 : 1 ≤ d := by omega
    clear h
    go_enter Try.func43, Try.ntmps43
    go_wp2
    go_ret
    exact ⟨rfl, rfl⟩

/-- The end of a row. -/
def endL (at_ mn wd it : Int) : Int := at_ + mn * (wd + it)
abbrev rowV (at_ fr mn wd it : Int) : Value := .agg #[.int .i64 at_, .int .i64 fr, .int .i64 mn, .int .i64 wd, .int .i64 it]
/-- A row whose numbers are small. -/
structure RowOk (at_ fr mn wd it : Int) : Prop where
  a0 : 0 ≤ at_
  a1 : at_ ≤ 100000
  f0 : 0 ≤ fr
  f1 : fr ≤ 1000
  m0 : 0 ≤ mn
  m1 : mn ≤ 1000
  w0 : 0 ≤ wd
  w1 : wd ≤ 10
  i0 : 0 ≤ it
  i1 : it ≤ 100

theorem end_any {at_ fr mn wd it : Int} (h : RowOk at_ fr mn wd it) (w : World) : Calls Try.prog 61 #[rowV at_ fr mn wd it] w fun e w' => e = .returned (.int .i64 (endL at_ mn wd it)) ∧ Below w.heap.size w w' := by
  obtain ⟨a0, a1, f0, f1, m0, m1, w0, w1, i0, i1⟩ := h
  obtain ⟨p0, p1⟩ := mul_bd m0 m1 (by omega : 0 ≤ wd + it) (by omega : wd + it ≤ 110)
  go_enter Try.func61, Try.ntmps61
  go_wp2
  go_ret
  exact ⟨rfl, (Below.refl _ _).alloc (Nat.le_refl _) _⟩

set_option maxHeartbeats 400000 in
theorem then_any {at_ fr mn wd it : Int} (f m s i : Int) (h : RowOk at_ fr mn wd it) (w : World) : Calls Try.prog 35 #[rowV at_ fr mn wd it, .int .i64 f, .int .i64 m, .int .i64 s, .int .i64 i] w fun e w' => e = .returned (rowV (endL at_ mn wd it) f m s i) ∧ Below w.heap.size w w' := by
  have H := Lib.hid h
  have HB := Below.refl w.heap.size w
  go_enter Try.func35, Try.ntmps35
  go_wp2_with (go_at_call 61; (with_reducible refine (end_any H.out _).mono ?_); rintro e w1 ⟨rfl, hb1⟩; obtain ⟨hc, hf⟩ := bcell hb1)
  have HB1 := below_step (below_alloc0 (below_alloc0 HB _) _) (by simp; omega) hb1
  have hz := hb1.size
  refine bodyPost_ret (v := rowV (endL at_ mn wd it) f m s i) (by simp [results, Try.results35, go_sem, hc]) rfl ⟨rfl, ?_⟩
  go_grown

/-- The place of a row's word. -/
def wordL (at_ fr mn wd it i j : Int) : Int := if fr ≤ i ∧ i ≤ fr + mn - 1 then at_ + (i - fr) * (wd + it) + j else -1
def itemL (at_ fr mn wd it i j : Int) : Int := if 0 ≤ j ∧ j ≤ it - 1 then wordL at_ fr mn wd it i (wd + j) else -1

theorem word_any {at_ fr mn wd it : Int} (i j : Int) (h : RowOk at_ fr mn wd it) (hi : (Lit.int .i64 i).wf = true) (hj : 0 ≤ j ∧ j ≤ 1000) (w : World) : Calls Try.prog 40 #[rowV at_ fr mn wd it, .int .i64 i, .int .i64 j] w fun e w' => e = .returned (.int .i64 (wordL at_ fr mn wd it i j)) ∧ Below w.heap.size w w' := by
  obtain ⟨a0, a1, f0, f1, m0, m1, w0, w1, i0, i1⟩ := h
  obtain ⟨j0, j1⟩ := hj
  obtain ⟨x0, x1⟩ := bounds_i64 hi; clear hi
  by_cases hw : fr ≤ i ∧ i ≤ fr + mn - 1
  · have hL : wordL at_ fr mn wd it i j = at_ + (i - fr) * (wd + it) + j := by unfold wordL; rw [if_pos hw]
    rw [hL]; clear hL
    obtain ⟨p0, p1⟩ := mul_bd (by omega : 0 ≤ i - fr) (by omega : i - fr ≤ 1000) (by omega : 0 ≤ wd + it) (by omega : wd + it ≤ 110)
    have HW := Lib.hid hw
    have hw1 := hw.1
    have hw2 := hw.2
    clear hw
    go_enter Try.func40, Try.ntmps40
    go_wp2_with (go_at_call 60; (with_reducible refine (within_yes _ _ _ HW.out _).mono ?_); rintro e w1 ⟨rfl, rfl⟩)
    go_ret
    exact ⟨rfl, (Below.refl _ _).alloc (Nat.le_refl _) _⟩
  · have hL : wordL at_ fr mn wd it i j = -1 := by unfold wordL; rw [if_neg hw]
    rw [hL]; clear hL
    have HW := Lib.hid hw
    clear hw
    go_enter Try.func40, Try.ntmps40
    go_wp2_with (go_at_call 60; (with_reducible refine (within_no _ _ _ HW.out _).mono ?_); rintro e w1 ⟨rfl, rfl⟩)
    go_ret
    exact ⟨rfl, (Below.refl _ _).alloc (Nat.le_refl _) _⟩

set_option maxHeartbeats 400000 in
theorem join_any (b x y : Int) (hb : 1 ≤ b) (hb2 : b ≤ 18446744073709551615) (hx : 0 ≤ x) (hx2 : x ≤ 18446744073709551615) (hy : 0 ≤ y) (hy2 : y ≤ 18446744073709551615) (w : World) :
    Calls Try.prog 50 #[.int .u64 b, .agg #[.int .u64 x, .int .u64 y]] w fun e w' => e = .returned (.int .u64 (IntKind.u64.wrap (IntKind.u64.wrap (x * b) + y % b))) ∧ Below w.heap.size w w' := by
  go_enter Try.func50, Try.ntmps50
  go_wp2
  go_quiet (fail)
  go_wp2
  go_ret
  exact ⟨rfl, below_drewN ((Below.refl _ _).alloc (Nat.le_refl _) _) _⟩
set_option maxHeartbeats 400000 in
/-- A pair of turn 0 is its number. -/
theorem pair_any (y : Int) (hy : 0 ≤ y) (hy2 : y ≤ 4294967295) (w : World) :
    Calls Try.prog 26 #[.int .u32 0, .int .u32 y] w fun e w' => e = .returned (.int .u64 y) ∧ Below w.heap.size w w' := by
  go_enter Try.func26, Try.ntmps26
  go_wp2_with (go_at_call 50; refine (join_any 4294967296 0 y (by omega) (by omega) (by omega) (by omega) hy (by omega) _).mono ?_; rintro e w1 ⟨rfl, hb⟩)
  go_ret
  exact ⟨ret_int (by rw [IntKind.wrap_u64, IntKind.wrap_u64]; omega), hb⟩
end Go.Proofs.Ytbpkcoemehmpbaa.Lay
