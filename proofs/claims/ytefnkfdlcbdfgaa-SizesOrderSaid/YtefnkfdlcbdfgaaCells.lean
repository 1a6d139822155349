/- The call of the law of cells. -/
import Derived.Test.YtefnkfdlcbdfgaaAll
namespace Go.Proofs.Ytefnkfdlcbdfgaa
open Go.RowKit

theorem pre5 (a b c d e : Int) : pre a b c d e 5 = List.replicate (many a).toNat 0 ++ (List.replicate (many b).toNat 1 ++ (List.replicate (many c).toNat 2 ++ (List.replicate (many d).toNat 3 ++ List.replicate (many e).toNat 4))) := by
  simp [pre, cnt, List.append_assoc]

theorem pre_length (a b c d e : Int) : ((pre a b c d e 5).length : Int) = many a + many b + many c + many d + many e := by
  have := many_bd a; have := many_bd b; have := many_bd c; have := many_bd d; have := many_bd e
  rw [pre5]; simp only [List.length_append, List.length_replicate]; omega

theorem rep_at (n : Nat) (k : Int) (l : List Int) (i : Nat) : (List.replicate n k ++ l).getD i 0 = if i < n then k else l.getD (i - n) 0 := by
  rw [List.getD_eq_getElem?_getD, List.getElem?_append]
  simp only [List.length_replicate, List.getElem?_replicate]
  split <;> simp

theorem pre_at (a b c d e : Int) (i : Nat) (h : i < (pre a b c d e 5).length) : (pre a b c d e 5).getD i 0 = kindOf a b c d e (i + 1) := by
  have := many_bd a; have := many_bd b; have := many_bd c; have := many_bd d; have := many_bd e
  have hl := pre_length a b c d e
  rw [pre5, rep_at, rep_at, rep_at, rep_at, List.getD_eq_getElem?_getD, List.getElem?_replicate]
  by_cases h1 : i < (many a).toNat
  · rw [if_pos h1]; unfold kindOf; omega
  rw [if_neg h1]
  by_cases h2 : i - (many a).toNat < (many b).toNat
  · rw [if_pos h2]; unfold kindOf; omega
  rw [if_neg h2]
  by_cases h3 : i - (many a).toNat - (many b).toNat < (many c).toNat
  · rw [if_pos h3]; unfold kindOf; omega
  rw [if_neg h3]
  by_cases h4 : i - (many a).toNat - (many b).toNat - (many c).toNat < (many d).toNat
  · rw [if_pos h4]; unfold kindOf; omega
  rw [if_neg h4, if_pos (by omega)]
  show (4 : Int) = _
  unfold kindOf; omega

/-- The words of cells of these classes. -/
def wsum (l : List Int) : Int := (l.map wordsOf).sum
theorem wsum_app (l m : List Int) : wsum (l ++ m) = wsum l + wsum m := by unfold wsum; simp
theorem wsum_rep (n : Nat) (k : Int) : wsum (List.replicate n k) = n * wordsOf k := by
  induction n with
  | zero => simp [wsum]
  | succ n ih => rw [List.replicate_succ', wsum_app, ih]; simp [wsum]; rw [Int.add_mul]; simp
theorem wsum_pre (a b c d e : Int) : wsum (pre a b c d e 5) = many a * 2 + many b * 3 + many c * 5 + many d * 9 + many e * 17 := by
  have := many_bd a; have := many_bd b; have := many_bd c; have := many_bd d; have := many_bd e
  rw [pre5]; simp only [wsum_app, wsum_rep]
  rw [show wordsOf 0 = 2 from rfl, show wordsOf 1 = 3 from rfl, show wordsOf 2 = 5 from rfl, show wordsOf 3 = 9 from rfl, show wordsOf 4 = 17 from rfl]
  omega
theorem words_bd (k : Int) : 0 ≤ wordsOf k ∧ wordsOf k ≤ 17 := by
  have := slots_bd k
  unfold wordsOf; split <;> omega
theorem wsum_bd (l : List Int) : 0 ≤ wsum l ∧ wsum l ≤ 17 * l.length := by
  induction l with
  | nil => simp [wsum]
  | cons x l ih =>
    have := words_bd x
    have h : wsum (x :: l) = wordsOf x + wsum l := by simp [wsum]
    rw [h]; simp only [List.length_cons]; omega
theorem wsum_take (l : List Int) (i : Nat) (h : i < l.length) : wsum (l.take (i + 1)) = wsum (l.take i) + wordsOf (l.getD i 0) := by
  rw [List.take_succ_eq_append_getElem h, wsum_app, List.getD_eq_getElem?_getD, List.getElem?_eq_getElem h]; simp [wsum]

theorem own_slice {B : Nat} {w0 wr : World} {v : Value} {l : List Int} (h : Own B w0 wr v l) :
    (l = [] ∧ v = .slice none 0 0) ∨ ∃ g cap, v = .slice (some ⟨g, 0, none⟩) l.length cap ∧ l.length ≤ cap ∧ cap ≤ maxLen ∧ g < wr.heap.size ∧ B + 1 ≤ g ∧ ∀ i, i < l.length → wr.cell? ⟨g, i, none⟩ = some (.int .i64 (l.getD i 0)) := by
  obtain ⟨ho, hb⟩ := h
  have hlt := ho.lt
  have hcell := fun g (hg : v.ownBlock = some g) => ho.cells hg
  obtain ⟨hl, ⟨h1, h2⟩ | ⟨g, cap, cur, h1, h2, h3, h4, h5, h6, h7⟩⟩ := ho
  · exact .inl ⟨List.eq_nil_of_length_eq_zero h2, h1⟩
  · refine .inr ⟨g, cap, h1, h4, h5, (hlt g (by rw [h1]; rfl)).2, h2, fun i hi => ?_⟩
    have := hcell g (by rw [h1]; rfl) i (.int .i64 (l.getD i 0)) (by simp [hi])
    cases i <;> simpa [Addr.add] using this


set_option maxHeartbeats 2000000 in
set_option maxRecDepth 100000 in
theorem walkCells (a b c d e v : Int) (w : World) (w1 : (Lit.int .i64 v).wf = true) :
    Calls Try.prog 4 #[.agg #[.int .i64 a, .int .i64 b, .int .i64 c, .int .i64 d, .int .i64 e], .int .i64 v] w fun r w' => r = .returned (.bool true) ∧ Below w.heap.size w w' := by
  obtain ⟨v0, v1⟩ := bounds_i64 w1; clear w1
  obtain ⟨L, hL⟩ : ∃ L, pre a b c d e 5 = L := ⟨_, rfl⟩
  have hn := pre_length a b c d e
  have hat := pre_at a b c d e
  have hws := wsum_pre a b c d e
  have h60 := pre_len a b c d e 5
  rw [hL] at hn hat hws h60
  have HN := Lib.hid hn.symm; have HAT := Lib.hid hat; have HWS := Lib.hid hws.symm; have HL := Lib.hid hL
  obtain ⟨Q, hQ⟩ : ∃ Q, kindOf a b c d e v = Q := ⟨_, rfl⟩
  have hkv : (v < 1 ∨ (L.length : Int) < v) → Q = -1 := by
    intro h; rw [hn] at h; rw [← hQ]; unfold kindOf
    have := many_bd a; have := many_bd b; have := many_bd c; have := many_bd d; have := many_bd e
    omega
  have HKV := Lib.hid hkv; have HQ := Lib.hid hQ
  clear hn hat hws hL hkv hQ
  go_enter Try.func4, Try.ntmps4
  go_wp2_with (first
    | (go_at_call 8; (with_reducible refine (awake_any _).mono ?_); rintro r w1 ⟨rfl, hb1⟩; obtain ⟨hc, hf⟩ := bcell hb1; have hz : w.heap.size < w1.heap.size := (by have := hb1.size; simp at this; omega))
    | (go_at_call 15; (with_reducible refine (all_any _ _ _ _ _ _).mono ?_); rintro r w2 ⟨x, rfl, ho⟩; rw [HL.out] at ho; have hb2 := below_step (hb1.alloc hb1.size _) (by have := hb1.size; simp at *; omega) (ho.2.mono (by simp)); clear hc hf; obtain ⟨hc, hf⟩ := bcell hb2; have hz2 : w.heap.size < w2.heap.size := (by have := hb2.size; simp at this; omega)))
  rcases own_slice ho with ⟨rfl, rfl⟩ | ⟨g, cap, rfl, h1, h2, h3, h4, hx⟩
  · have HN0 : Hid (many a + many b + many c + many d + many e = 0) := Lib.hid HN.out
    have HWS0 : Hid (many a * 2 + many b * 3 + many c * 5 + many d * 9 + many e * 17 = 0) := Lib.hid HWS.out
    obtain rfl := HKV.out (by simp; omega)
    clear HN HWS
    by_cases hv1 : v < 1
    · go_wp2
      refine wp_loop_rounds 1 ?_
      rw [rounds_succ]
      go_wp2_with (first
        | (go_at_call 16; (with_reducible refine (nodes_is _ _ _ _ _ _ HN0.out _).mono ?_); rintro r w3 ⟨rfl, hb3⟩; have hb2 := below_step hb2 hb2.size hb3; clear hc hf; obtain ⟨hc, hf⟩ := bcell hb2; have hz2 : w.heap.size < w3.heap.size := (by have := hb2.size; simp at this; omega))
        | (go_at_call 17; (with_reducible refine (total_is _ _ _ _ _ _ HWS0.out _).mono ?_); rintro r w3 ⟨rfl, hb3⟩; have hb2 := below_step hb2 hb2.size hb3; clear hc hf; obtain ⟨hc, hf⟩ := bcell hb2; have hz2 : w.heap.size < w3.heap.size := (by have := hb2.size; simp at this; omega))
        | (go_at_call 18; (with_reducible refine (class_is _ _ _ _ _ _ _ HQ.out _).mono ?_); rintro r w3 ⟨rfl, hb3⟩; have hb2 := below_step hb2 hb2.size hb3))
      go_ret
      exact ⟨rfl, below_step ((Below.refl _ _).alloc (Nat.le_refl _) _) (by simp) hb2⟩
    · have hv3 : 1 ≤ v := by omega
      clear hv1
      go_wp2
      refine wp_loop_rounds 1 ?_
      rw [rounds_succ]
      go_wp2_with (first
        | (go_at_call 16; (with_reducible refine (nodes_is _ _ _ _ _ _ HN0.out _).mono ?_); rintro r w3 ⟨rfl, hb3⟩; have hb2 := below_step hb2 hb2.size hb3; clear hc hf; obtain ⟨hc, hf⟩ := bcell hb2; have hz2 : w.heap.size < w3.heap.size := (by have := hb2.size; simp at this; omega))
        | (go_at_call 17; (with_reducible refine (total_is _ _ _ _ _ _ HWS0.out _).mono ?_); rintro r w3 ⟨rfl, hb3⟩; have hb2 := below_step hb2 hb2.size hb3; clear hc hf; obtain ⟨hc, hf⟩ := bcell hb2; have hz2 : w.heap.size < w3.heap.size := (by have := hb2.size; simp at this; omega))
        | (go_at_call 18; (with_reducible refine (class_is _ _ _ _ _ _ _ HQ.out _).mono ?_); rintro r w3 ⟨rfl, hb3⟩; have hb2 := below_step hb2 hb2.size hb3))
      go_ret
      exact ⟨rfl, below_step ((Below.refl _ _).alloc (Nat.le_refl _) _) (by simp) hb2⟩
  · have HX := Lib.hid hx; clear hx
    unfold maxLen at h2
    clear ho hb1 hz
    go_loop [7, 8] (fun n i => ∃ k : Nat, k ≤ L.length ∧ i = .int .i64 k ∧ n = .int .i64 (wsum (L.take k))) (fun _ i => L.length - (intOf i).toNat)
    case atStart => exact ⟨0, by omega, rfl, rfl⟩
    case round =>
      obtain ⟨k, hk, rfl, rfl⟩ := hrel
      obtain ⟨s0, s1⟩ := wsum_bd (L.take k)
      have s2 : (L.take k).length ≤ k := List.length_take_le _ _
      by_cases hlt : k < L.length
      · have hcell := HX.out k hlt
        have hst := wsum_take L k hlt
        obtain ⟨X, hX⟩ : ∃ X, L.getD k 0 = X := ⟨_, rfl⟩
        rw [hX] at hcell hst; clear hX
        obtain ⟨t0, t1⟩ := words_bd X
        have hstep := Lib.hid hst; clear hst
        go_wp2_with (go_at_call 14; (with_reducible refine (refWords_any _ _).mono ?_); rintro r w1 ⟨rfl, rfl⟩)
        go_round
        case rel => exact ⟨k + 1, by omega, by go_num, by rw [hstep.out]⟩
        case measure => simp [intOf]; omega
      · have hkl : k = L.length := by omega
        subst hkl
        rw [List.take_length] at s0 s1 ⊢
        by_cases hv1 : v < 1
        · obtain rfl := HKV.out (.inl hv1)
          go_wp2_with (first
            | (go_at_call 16; (with_reducible refine (nodes_is _ _ _ _ _ _ HN.out _).mono ?_); rintro r w3 ⟨rfl, hb3⟩; have hb2 := below_step hb2 hb2.size hb3; clear hc hf; obtain ⟨hc, hf⟩ := bcell hb2; have hz2 : w.heap.size < w3.heap.size := (by have := hb2.size; simp at this; omega))
            | (go_at_call 17; (with_reducible refine (total_is _ _ _ _ _ _ HWS.out _).mono ?_); rintro r w3 ⟨rfl, hb3⟩; have hb2 := below_step hb2 hb2.size hb3; clear hc hf; obtain ⟨hc, hf⟩ := bcell hb2; have hz2 : w.heap.size < w3.heap.size := (by have := hb2.size; simp at this; omega))
            | (go_at_call 18; (with_reducible refine (class_is _ _ _ _ _ _ _ HQ.out _).mono ?_); rintro r w3 ⟨rfl, hb3⟩; have hb2 := below_step hb2 hb2.size hb3))
          go_ret
          exact ⟨rfl, below_step ((Below.refl _ _).alloc (Nat.le_refl _) _) (by simp) hb2⟩
        · by_cases hv2 : (L.length : Int) < v
          · obtain rfl := HKV.out (.inr hv2)
            have hv3 : 1 ≤ v := by omega
            clear hv1
            go_wp2_with (first
              | (go_at_call 16; (with_reducible refine (nodes_is _ _ _ _ _ _ HN.out _).mono ?_); rintro r w3 ⟨rfl, hb3⟩; have hb2 := below_step hb2 hb2.size hb3; clear hc hf; obtain ⟨hc, hf⟩ := bcell hb2; have hz2 : w.heap.size < w3.heap.size := (by have := hb2.size; simp at this; omega))
              | (go_at_call 17; (with_reducible refine (total_is _ _ _ _ _ _ HWS.out _).mono ?_); rintro r w3 ⟨rfl, hb3⟩; have hb2 := below_step hb2 hb2.size hb3; clear hc hf; obtain ⟨hc, hf⟩ := bcell hb2; have hz2 : w.heap.size < w3.heap.size := (by have := hb2.size; simp at this; omega))
              | (go_at_call 18; (with_reducible refine (class_is _ _ _ _ _ _ _ HQ.out _).mono ?_); rintro r w3 ⟨rfl, hb3⟩; have hb2 := below_step hb2 hb2.size hb3))
            go_ret
            exact ⟨rfl, below_step ((Below.refl _ _).alloc (Nat.le_refl _) _) (by simp) hb2⟩
          · obtain ⟨j, hj1⟩ : ∃ j : Nat, v - 1 = j := ⟨(v - 1).toNat, by omega⟩
            have hj : j < L.length := by omega
            have hq := HAT.out j hj
            rw [show (j : Int) + 1 = v by omega, HQ.out] at hq
            have hv3 : 1 ≤ v := by omega
            have hv4 : v ≤ L.length := by omega
            have hcell := HX.out j hj
            rw [hq] at hcell
            clear hq hv1 hv2
            go_wp2_with (first
              | (go_at_call 16; (with_reducible refine (nodes_is _ _ _ _ _ _ HN.out _).mono ?_); rintro r w3 ⟨rfl, hb3⟩; have hb2 := below_step hb2 hb2.size hb3; clear hc hf; obtain ⟨hc, hf⟩ := bcell hb2; have hz2 : w.heap.size < w3.heap.size := (by have := hb2.size; simp at this; omega))
              | (go_at_call 17; (with_reducible refine (total_is _ _ _ _ _ _ HWS.out _).mono ?_); rintro r w3 ⟨rfl, hb3⟩; have hb2 := below_step hb2 hb2.size hb3; clear hc hf; obtain ⟨hc, hf⟩ := bcell hb2; have hz2 : w.heap.size < w3.heap.size := (by have := hb2.size; simp at this; omega))
              | (go_at_call 18; (with_reducible refine (class_is _ _ _ _ _ _ _ HQ.out _).mono ?_); rintro r w3 ⟨rfl, hb3⟩; have hb2 := below_step hb2 hb2.size hb3))
            go_ret
            exact ⟨rfl, below_step ((Below.refl _ _).alloc (Nat.le_refl _) _) (by simp) hb2⟩
end Go.Proofs.Ytefnkfdlcbdfgaa
