/- The functions of the package sizes, and the document's own, walked. The document's own list of cells, walked. -/
import Derived.Test.YtbpkcoemehmpbaaGreatJ4
import Derived.OpenShut
import Derived.OwnWalk
import Derived.Laws.AppendOwn
namespace Go.Proofs.YtbpkcoemehmpbaaGreat.Lay
open Go.RowKit
set_option linter.unusedVariables false

def slotsOf (k : Int) : Int := if k = 0 then 1 else if k = 1 then 2 else if k = 2 then 4 else if k = 3 then 8 else if k = 4 then 16 else 0
theorem slots_bd (k : Int) : 0 ≤ slotsOf k ∧ slotsOf k ≤ 16 := by unfold slotsOf; omega

set_option maxHeartbeats 400000 in
theorem slots_any (k : Int) (w : World) :
    Calls Tryz.prog 34 #[.int .i64 k] w fun e w' => e = .returned (.int .i64 (slotsOf k)) ∧ w = w' := by
  by_cases h : 0 ≤ k ∧ k < 5
  · have : k = 0 ∨ k = 1 ∨ k = 2 ∨ k = 3 ∨ k = 4 := by omega
    clear h
    rcases this with rfl | rfl | rfl | rfl | rfl
    all_goals
      go_enter Tryz.func34, Tryz.ntmps34
      go_wp2
      go_ret
      exact ⟨rfl, rfl⟩
  · have hs : slotsOf k = 0 := by unfold slotsOf; omega
    have HS := Lib.hid hs; clear hs
    by_cases h1 : k < 0
    · clear h
      go_enter Tryz.func34, Tryz.ntmps34
      go_wp2
      go_ret
      exact ⟨ret_int HS.out.symm, rfl⟩
    · have h2 : 5 ≤ k := by omega
      have h3 : 0 ≤ k := by omega
      clear h h1
      go_enter Tryz.func34, Tryz.ntmps34
      go_wp2
      go_ret
      exact ⟨ret_int HS.out.symm, rfl⟩

/-- How many cells of a class count. -/
def many (c : Int) : Int := imin (imax c 0) 12
theorem many_bd (c : Int) : 0 ≤ many c ∧ many c ≤ 12 := by unfold many imin imax; omega
theorem many_is {c : Int} (h : 0 ≤ c ∧ c ≤ 12) : many c = c := by unfold many imin imax; omega

set_option maxHeartbeats 1000000 in
theorem within_any (a b c d e : Int) (w : World) :
    Calls Tryz.prog 85 #[.agg #[.int .i64 a, .int .i64 b, .int .i64 c, .int .i64 d, .int .i64 e]] w fun r w' => r = .returned (.agg #[.int .i64 (many a), .int .i64 (many b), .int .i64 (many c), .int .i64 (many d), .int .i64 (many e)]) ∧ Below w.heap.size w w' := by
  go_enter Tryz.func85, Tryz.ntmps85
  go_wp2
  refine wp_loop_rounds 6 ?_
  rw [rounds_succ]; go_wp2
  rw [rounds_succ]; go_wp2
  rw [rounds_succ]; go_wp2
  rw [rounds_succ]; go_wp2
  rw [rounds_succ]; go_wp2
  rw [rounds_succ]; go_wp2
  exact bodyPost_ret (v := .agg #[.int .i64 (many a), .int .i64 (many b), .int .i64 (many c), .int .i64 (many d), .int .i64 (many e)]) (by simp [results, Tryz.results85, go_sem, many]) rfl ⟨rfl, by go_grown⟩

set_option maxHeartbeats 1000000 in
theorem nodes_any (a b c d e : Int) (w : World) :
    Calls Tryz.prog 67 #[.agg #[.int .i64 a, .int .i64 b, .int .i64 c, .int .i64 d, .int .i64 e]] w fun r w' => r = .returned (.int .i64 (many a + many b + many c + many d + many e)) ∧ Below w.heap.size w w' := by
  obtain ⟨a0, a1⟩ := many_bd a
  obtain ⟨b0, b1⟩ := many_bd b
  obtain ⟨c0, c1⟩ := many_bd c
  obtain ⟨d0, d1⟩ := many_bd d
  obtain ⟨e0, e1⟩ := many_bd e
  go_enter Tryz.func67, Tryz.ntmps67
  go_wp2_with (go_at_call 85; (with_reducible refine (within_any _ _ _ _ _ _).mono ?_); rintro r w1 ⟨rfl, hb⟩; have hb := below_step ((Below.refl _ _).alloc (Nat.le_refl _) _) (by simp) hb)
  refine wp_loop_rounds 6 ?_
  rw [rounds_succ]; go_wp2
  rw [rounds_succ]; go_wp2
  rw [rounds_succ]; go_wp2
  rw [rounds_succ]; go_wp2
  rw [rounds_succ]; go_wp2
  rw [rounds_succ]; go_wp2
  go_ret
  exact ⟨rfl, hb.alloc hb.size _⟩

/-- The class of a cell. -/
def kindOf (a b c d e v : Int) : Int := if v < 1 then -1 else if v ≤ many a then 0 else if v ≤ many a + many b then 1 else if v ≤ many a + many b + many c then 2 else if v ≤ many a + many b + many c + many d then 3 else if v ≤ many a + many b + many c + many d + many e then 4 else -1

set_option maxHeartbeats 2000000 in
theorem class_any (a b c d e v : Int) (w : World) :
    Calls Tryz.prog 92 #[.agg #[.int .i64 a, .int .i64 b, .int .i64 c, .int .i64 d, .int .i64 e], .int .i64 v] w fun r w' => r = .returned (.int .i64 (kindOf a b c d e v)) ∧ Below w.heap.size w w' := by
  obtain ⟨a0, a1⟩ := many_bd a
  obtain ⟨b0, b1⟩ := many_bd b
  obtain ⟨c0, c1⟩ := many_bd c
  obtain ⟨d0, d1⟩ := many_bd d
  obtain ⟨e0, e1⟩ := many_bd e
  by_cases h : v < 1
  · go_enter Tryz.func92, Tryz.ntmps92
    go_wp2
    go_ret
    refine ⟨ret_int (by unfold kindOf; omega), ?_⟩
    exact (Below.refl _ _).alloc (Nat.le_refl _) _
  · go_enter Tryz.func92, Tryz.ntmps92
    go_wp2_with (go_at_call 85; (with_reducible refine (within_any _ _ _ _ _ _).mono ?_); rintro r w1 ⟨rfl, hb⟩; have hb := below_step ((Below.refl _ _).alloc (Nat.le_refl _) _) (by simp) hb)
    refine wp_loop_rounds 6 ?_
    repeat any_goals (rw [rounds_succ]; go_wp2)
    all_goals go_ret
    all_goals exact ⟨ret_int (by unfold kindOf; omega), hb.alloc hb.size _⟩

set_option maxHeartbeats 400000 in
theorem refSlots_any (k : Int) (w : World) :
    Calls Tryz.prog 86 #[.int .i64 k] w fun e w' => e = .returned (.int .i64 (slotsOf k)) ∧ w = w' := by
  by_cases h : 0 ≤ k ∧ k < 5
  · have : k = 0 ∨ k = 1 ∨ k = 2 ∨ k = 3 ∨ k = 4 := by omega
    clear h
    rcases this with rfl | rfl | rfl | rfl | rfl
    all_goals
      go_enter Tryz.func86, Tryz.ntmps86
      go_wp2
      refine wp_loop_rounds 6 ?_
      repeat any_goals (rw [rounds_succ]; go_wp2)
      go_ret
      exact ⟨rfl, rfl⟩
  · have hs : slotsOf k = 0 := by unfold slotsOf; omega
    have HS := Lib.hid hs; clear hs
    by_cases h1 : k < 0
    · clear h
      go_enter Tryz.func86, Tryz.ntmps86
      go_wp2
      go_ret
      exact ⟨ret_int HS.out.symm, rfl⟩
    · have h2 : 4 < k := by omega
      have h3 : 0 ≤ k := by omega
      clear h h1
      go_enter Tryz.func86, Tryz.ntmps86
      go_wp2
      go_ret
      exact ⟨ret_int HS.out.symm, rfl⟩

end Go.Proofs.YtbpkcoemehmpbaaGreat.Lay

namespace Go.Proofs.YtbpkcoemehmpbaaGreat.Lay
open Go.RowKit

/-- How many cells the class k has, of five numbers. -/
def cnt (a b c d e : Int) (k : Nat) : Int := if k = 0 then a else if k = 1 then b else if k = 2 then c else if k = 3 then d else e
/-- The classes of the cells of the first k classes. -/
def pre (a b c d e : Int) : Nat → List Int
  | 0 => []
  | k + 1 => pre a b c d e k ++ List.replicate (many (cnt a b c d e k)).toNat (k : Int)

theorem pre_len (a b c d e : Int) : ∀ k : Nat, (pre a b c d e k).length ≤ 12 * k
  | 0 => by simp [pre]
  | k + 1 => by
    have := pre_len a b c d e k
    have := many_bd (cnt a b c d e k)
    simp [pre]; omega

/-- A row of the call's own, which holds these numbers. -/
def Own (B : Nat) (w0 wr : World) (v : Value) (l : List Int) : Prop :=
  wr.ownsRow (B + 1) 3 1 v l.length (l.map (Value.int .i64)) ∧ Below (B + 1) w0 wr

theorem own_step {B : Nat} {w0 wr w' : World} {v v' : Value} {l : List Int} {k : Int} {o : Obj} (h : Own B w0 wr v l) (hB : B + 1 ≤ w0.heap.size)
    (hown : w'.ownsRow (B + 1) 3 1 v' (l.length + 1) (l.map (Value.int .i64) ++ [Value.int .i64 k])) (hg : (wr.alloc o).grownBy w' v.ownBlock) : Own B w0 w' v' (l ++ [k]) := by
  refine ⟨by simpa using hown, ?_⟩
  exact (h.2.alloc (Nat.le_trans hB h.2.size) o).grown hg (Nat.le_trans hB (by have := h.2.size; simp; omega)) (fun b hb => (h.1.lt b hb).1)

set_option maxHeartbeats 1000000 in
set_option maxRecDepth 100000 in
theorem all_any (a b c d e : Int) (w : World) :
    Calls Tryz.prog 48 #[.agg #[.int .i64 a, .int .i64 b, .int .i64 c, .int .i64 d, .int .i64 e]] w fun r w' => ∃ v, r = .returned v ∧ Own w.heap.size (w.alloc (.cells #[.int .i64 a, .int .i64 b, .int .i64 c, .int .i64 d, .int .i64 e] 22)) w' v (pre a b c d e 5) := by
  obtain ⟨i0, hi, hz0, hz1, hz2⟩ := info_parts info3
  obtain ⟨w0, hw0⟩ : ∃ w0 : World, w0 = w.alloc (.cells #[.int .i64 a, .int .i64 b, .int .i64 c, .int .i64 d, .int .i64 e] 22) := ⟨_, rfl⟩
  have hc0 : ∀ K, K < 5 → w0.cell? ⟨w.heap.size, K, none⟩ = some (.int .i64 (cnt a b c d e K)) := by
    intro K hK
    rw [hw0, World.cell?_alloc_at _ _ _ _ rfl]
    match K, hK with
    | 0, _ => rfl
    | 1, _ => rfl
    | 2, _ => rfl
    | 3, _ => rfl
    | 4, _ => rfl
  have hs0 : w.heap.size + 1 ≤ w0.heap.size := by rw [hw0]; simp
  have HW := Lib.hid hw0; clear hw0
  have HC := Lib.hid hc0; clear hc0
  go_enter Tryz.func48, Tryz.ntmps48
  go_wp2
  rw [← HW.out]
  go_loopw [3, 4] (fun v i wr => ∃ K : Nat, K ≤ 5 ∧ i = .int .i64 K ∧ Own w.heap.size w0 wr v (pre a b c d e K)) (fun _ i _ => 5 - (intOf i).toNat)
  case atStart => exact ⟨0, by omega, rfl, World.ownsRow_nil _ _ _ _, Below.refl _ _⟩
  case round =>
    obtain ⟨K, hK, rfl, ho⟩ := hrel
    by_cases hlt : K < 5
    · obtain ⟨C, hC⟩ : ∃ C : Int, C = cnt a b c d e K := ⟨_, rfl⟩
      have H0 := Lib.hid (HC.out K hlt)
      have hd : decide ((K : Int) < 5) = true := by simp; omega
      have hl := pre_len a b c d e K
      obtain ⟨M, hM⟩ : ∃ M : Nat, M = (many C).toNat := ⟨_, rfl⟩
      have hM12 : M ≤ 12 := by have := many_bd C; omega
      have HM := Lib.hid hM; clear hM
      have HCC := Lib.hid hC; clear hC
      go_wp2
      obtain ⟨wo, rfl⟩ : ∃ wo : World, wo = wr := ⟨_, rfl⟩
      go_loopw [3, 5] (fun v i wr => ∃ j : Nat, j ≤ M ∧ i = .int .i64 j ∧ Own w.heap.size w0 wr v (pre a b c d e K ++ List.replicate j (K : Int))) (fun _ i _ => M - (intOf i).toNat)
      case atStart => exact ⟨0, by omega, rfl, by simpa using ho⟩
      case round =>
        obtain ⟨j, hj, rfl, ho2⟩ := hrel
        have hcell : wr.cell? ⟨w.heap.size, K, none⟩ = some (.int .i64 C) := (ho2.2.cell (by exact Nat.lt_succ_self _)).trans (by rw [HCC.out]; exact H0.out)
        have hsz := ho2.2.size
        by_cases hlt2 : j < M
        · have hb1 : (j : Int) < C := by have := HM.out; unfold many imin imax at this; omega
          have hb2 : (j : Int) < 12 := by omega
          go_wp2_with (at_builtin; refine wpList_append_own _ rfl _ _ 46 rfl (w.heap.size + 1) 3 i0 (.int .i64 0) 1 8 Tryz.underlying46 hi hz0 hz1 hz2 rfl (by decide) _ _ _ rfl (ho2.1.alloc _) ⟨wr.heap.size, 0, none⟩ 1 1 [.int .i64 (K : Int)] rfl rfl ?c1 ?c2 ?c3 ?c4 ?c5 ?_)
          case c1 =>
            intro j u hj
            match j, hj with
            | 0, hj => simp at hj; subst hj; simp [Addr.add]
          case c2 => intro u hu; simp at hu; subst hu; rfl
          case c3 => unfold maxLen; simp; omega
          case c4 => simp; omega
          case c5 => simp; omega
          intro v' w1 hown' hgrow _
          have R := own_step (k := (K : Int)) ho2 hs0 (by simpa [List.append_assoc] using hown') hgrow
          clear hown' hgrow hcell
          go_wp2
          go_roundw
          case rel => exact ⟨j + 1, by omega, by go_num, by simpa [List.replicate_succ', ← List.append_assoc] using R⟩
          case measure => simp [intOf]; omega
        · have hjm : j = M := by omega
          subst hjm
          have HO : Own w.heap.size w0 wr u3 (pre a b c d e (K + 1)) := by
            have := ho2
            rw [HM.out, HCC.out] at this
            exact this
          by_cases hb : C ≤ j
          · go_wp2
            go_roundw
            case rel => exact ⟨K + 1, by omega, by go_num, HO⟩
            case measure => simp [intOf]; omega
          · have hb3 : (j : Int) < C := by omega
            have hb4 : 12 ≤ (j : Int) := by have := HM.out; unfold many imin imax at this; omega
            go_wp2
            go_roundw
            case rel => exact ⟨K + 1, by omega, by go_num, HO⟩
            case measure => simp [intOf]; omega
    · have hK5 : K = 5 := by omega
      subst hK5
      go_wp2
      go_ret
      exact ⟨_, rfl, by rw [← HW.out]; exact ho⟩
theorem pre5 (a b c d e : Int) : pre a b c d e 5 = List.replicate (many a).toNat 0 ++ (List.replicate (many b).toNat 1 ++ (List.replicate (many c).toNat 2 ++ (List.replicate (many d).toNat 3 ++ List.replicate (many e).toNat 4))) := by
  simp [pre, cnt, List.append_assoc]

theorem pre_length (a b c d e : Int) : ((pre a b c d e 5).length : Int) = many a + many b + many c + many d + many e := by
  have := many_bd a; have := many_bd b; have := many_bd c; have := many_bd d; have := many_bd e
  rw [pre5]; simp only [List.length_append, List.length_replicate]; omega

theorem rep_at (n : Nat) (k : Int) (l : List Int) (i : Nat) : (List.replicate n k ++ l).getD i 0 = if i < n then k else l.getD (i - n) 0 := by
  rw [List.getD_eq_getElem?_getD, List.getElem?_append]
  simp only [List.length_replicate, List.getElem?_replicate]
  split <;> simp

theorem pre_at (a b c d e : Int) (i : Nat) (h : i < (pre a b c d e 5).length) : (pre a b c d e 5).getD i 0 = kindOf a b c d e (i + 1) := by
  have := many_bd a; have := many_bd b; have := many_bd c; have := many_bd d; have := many_bd e
  have hl := pre_length a b c d e
  rw [pre5, rep_at, rep_at, rep_at, rep_at, List.getD_eq_getElem?_getD, List.getElem?_replicate]
  by_cases h1 : i < (many a).toNat
  · rw [if_pos h1]; unfold kindOf; omega
  rw [if_neg h1]
  by_cases h2 : i - (many a).toNat < (many b).toNat
  · rw [if_pos h2]; unfold kindOf; omega
  rw [if_neg h2]
  by_cases h3 : i - (many a).toNat - (many b).toNat < (many c).toNat
  · rw [if_pos h3]; unfold kindOf; omega
  rw [if_neg h3]
  by_cases h4 : i - (many a).toNat - (many b).toNat - (many c).toNat < (many d).toNat
  · rw [if_pos h4]; unfold kindOf; omega
  rw [if_neg h4, if_pos (by omega)]
  show (4 : Int) = _
  unfold kindOf; omega

theorem own_slice {B : Nat} {w0 wr : World} {v : Value} {l : List Int} (h : Own B w0 wr v l) :
    (l = [] ∧ v = .slice none 0 0) ∨ ∃ g cap, v = .slice (some ⟨g, 0, none⟩) l.length cap ∧ l.length ≤ cap ∧ cap ≤ maxLen ∧ g < wr.heap.size ∧ B + 1 ≤ g ∧ ∀ i, i < l.length → wr.cell? ⟨g, i, none⟩ = some (.int .i64 (l.getD i 0)) := by
  obtain ⟨ho, hb⟩ := h
  have hlt := ho.lt
  have hcell := fun g (hg : v.ownBlock = some g) => ho.cells hg
  obtain ⟨hl, ⟨h1, h2⟩ | ⟨g, cap, cur, h1, h2, h3, h4, h5, h6, h7⟩⟩ := ho
  · exact .inl ⟨List.eq_nil_of_length_eq_zero h2, h1⟩
  · refine .inr ⟨g, cap, h1, h4, h5, (hlt g (by rw [h1]; rfl)).2, h2, fun i hi => ?_⟩
    have := hcell g (by rw [h1]; rfl) i (.int .i64 (l.getD i 0)) (by simp [hi])
    cases i <;> simpa [Addr.add] using this


end Go.Proofs.YtbpkcoemehmpbaaGreat.Lay
