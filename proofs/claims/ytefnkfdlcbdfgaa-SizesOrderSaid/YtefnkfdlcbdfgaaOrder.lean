/- The call of the law of the order of cells. -/
import Derived.Test.YtefnkfdlcbdfgaaCells
import Derived.Deep.RegionHeld3
import Derived.Deep.DeepCutAuto
namespace Go.Proofs.Ytefnkfdlcbdfgaa
open Go.RowKit

theorem bcell' {B : Nat} {W w1 : World} (hb : Below B W w1) : (∀ b o, b < B → w1.cell? ⟨b, o, none⟩ = W.cell? ⟨b, o, none⟩) ∧ (∀ b o, b < B → w1.frozen? ⟨b, o, none⟩ = W.frozen? ⟨b, o, none⟩) :=
  ⟨fun b o h => hb.cell (p := ⟨b, o, none⟩) h, fun b o h => hb.frozen (p := ⟨b, o, none⟩) h⟩

theorem many_more (c : Int) (h : c < 12) : many (imax c 0 + 1) = many c + 1 := by unfold many imin imax; omega
theorem imax_bd (c : Int) (h : c < 12) : 0 ≤ imax c 0 ∧ imax c 0 ≤ 11 := by unfold imax; omega

theorem undrew {w w' : World} (h : Below w.drew.heap.size w.drew w') : Below w.heap.size w w' := ((Below.refl w.heap.size w).drew).trans h

/-- How often a class stands in a list. -/
def cn (l : List Int) (j : Int) : Int := (l.count j : Int)
theorem cn_nil (j : Int) : cn [] j = 0 := rfl
theorem cn_take (l : List Int) (k : Nat) (j : Int) (h : k < l.length) : cn (l.take (k + 1)) j = cn (l.take k) j + if l.getD k 0 = j then 1 else 0 := by
  rw [List.take_succ_eq_append_getElem h, List.getD_eq_getElem?_getD, List.getElem?_eq_getElem h]
  simp only [cn, List.count_append, List.count_singleton, Option.getD_some, beq_iff_eq]
  split <;> simp
theorem cn_bd (l : List Int) (j : Int) : 0 ≤ cn l j ∧ cn l j ≤ l.length := by
  have := List.count_le_length (a := j) (l := l)
  unfold cn; omega
theorem cn_rep (n : Nat) (k j : Int) (l : List Int) : cn (List.replicate n k ++ l) j = (if k = j then (n : Int) else 0) + cn l j := by
  simp only [cn, List.count_append, List.count_replicate, beq_iff_eq]
  split <;> simp
theorem cn_pre (a b c d e : Int) (j : Nat) (h : j < 5) : cn (pre a b c d e 5) j = many (cnt a b c d e j) := by
  have := many_bd a; have := many_bd b; have := many_bd c; have := many_bd d; have := many_bd e
  rw [pre5, ← List.append_nil (List.replicate (many e).toNat 4), cn_rep, cn_rep, cn_rep, cn_rep, cn_rep, cn_nil]
  match j, h with
  | 0, _ => simp [cnt]; omega
  | 1, _ => simp [cnt]; omega
  | 2, _ => simp [cnt]; omega
  | 3, _ => simp [cnt]; omega
  | 4, _ => simp [cnt]; omega
theorem kind_bd (a b c d e : Int) (k : Nat) (h : (k : Int) < many a + many b + many c + many d + many e) : 0 ≤ kindOf a b c d e (k + 1) ∧ kindOf a b c d e (k + 1) ≤ 4 ∧ kindOf a b c d e k ≤ kindOf a b c d e (k + 1) := by
  have := many_bd a; have := many_bd b; have := many_bd c; have := many_bd d; have := many_bd e
  unfold kindOf; omega

/-- The array 'many', five cells. -/
def Five (w : World) (M : Nat) (f : Int → Int) : Prop := ∀ j : Nat, j < 5 → w.cell? ⟨M, j, none⟩ = some (.int .i64 (f j)) ∧ w.frozen? ⟨M, j, none⟩ = false
theorem Five.below {w w' : World} {M : Nat} {f : Int → Int} (h : Five w M f) (hb : Below w.heap.size w w') (hM : M < w.heap.size) : Five w' M f :=
  fun j hj => ⟨(hb.cell (p := ⟨M, j, none⟩) hM).trans (h j hj).1, (hb.frozen (p := ⟨M, j, none⟩) hM).trans (h j hj).2⟩

theorem Five.set {w : World} {M K : Nat} {f f' : Int → Int} {x : Int} (h : Five w M f) (hK : K < 5) (hx : f' K = x) (hf : ∀ j : Nat, j ≠ K → f' j = f j) : Five (w.setCell ⟨M, K, none⟩ (.int .i64 x)) M f' := by
  intro j hj
  refine ⟨?_, (World.frozen?_setCell _ _ _ _).trans (h j hj).2⟩
  by_cases e : j = K
  · subst e; rw [World.cell?_setCell_same _ _ _ (h j hj).1, hx]
  · rw [World.cell?_setCell_other _ _ _ _ (by intro hh; injection hh; omega), (h j hj).1, hf j e]

/-- What the last statement needs of memory. -/
structure KK (B M : Nat) (w0 : World) (f : Int → Int) (w' : World) : Prop where
  five : Five w' M f
  lt : M < w'.heap.size
  le : B + 1 ≤ w'.heap.size
  bel : Below (B + 1) w0 w'
theorem KK.drew {B M : Nat} {w0 : World} {f : Int → Int} {w' : World} (h : KK B M w0 f w') : KK B M w0 f w'.drew := ⟨h.five, h.lt, h.le, h.bel.drew⟩
theorem KK.step {B M : Nat} {w0 : World} {f : Int → Int} {w' w2 : World} (h : KK B M w0 f w') (hb : Below w'.heap.size w' w2) : KK B M w0 f w2 :=
  ⟨h.five.below hb h.lt, Nat.lt_of_lt_of_le h.lt hb.size, Nat.le_trans h.le hb.size, below_step h.bel h.le hb⟩
theorem KK.more {X Y Z : Prop} {B M : Nat} {w0 : World} {f : Int → Int} {w' w2 : World} (h : X ∧ Y ∧ Z ∧ KK B M w0 f w') (hb : Below w'.heap.size w' w2) : KK B M w0 f w2 := h.2.2.2.step hb
theorem KK.fin {X Y Z : Prop} {M : Nat} {w : World} {o : Obj} {f : Int → Int} {w' : World} (h : X ∧ Y ∧ Z ∧ KK w.heap.size M (w.alloc o) f w') : Below w.heap.size w w' := ((Below.refl _ _).alloc (Nat.le_refl _) o).trans (h.2.2.2.bel.mono (Nat.le_succ _))
theorem KK.cells {w : World} {M : Nat} {f : Int → Int} {a b c d e : Int} {J : Nat} {w' : World} (hJ : J < 5) (hf : f J = many (cnt a b c d e J)) (h : KK w.heap.size M (w.alloc (.cells #[.int .i64 a, .int .i64 b, .int .i64 c, .int .i64 d, .int .i64 e] 25)) f w') :
    (w'.cell? ⟨w.heap.size, 0, none⟩ = some (.int .i64 a) ∧ w'.cell? ⟨w.heap.size, 1, none⟩ = some (.int .i64 b) ∧ w'.cell? ⟨w.heap.size, 2, none⟩ = some (.int .i64 c) ∧ w'.cell? ⟨w.heap.size, 3, none⟩ = some (.int .i64 d) ∧ w'.cell? ⟨w.heap.size, 4, none⟩ = some (.int .i64 e)) ∧
    w'.cell? ⟨w.heap.size, J, none⟩ = some (.int .i64 (cnt a b c d e J)) ∧ w'.cell? ⟨M, J, none⟩ = some (.int .i64 (many (cnt a b c d e J))) ∧ KK w.heap.size M (w.alloc (.cells #[.int .i64 a, .int .i64 b, .int .i64 c, .int .i64 d, .int .i64 e] 25)) f w' := by
  have key : ∀ i, i < 5 → w'.cell? ⟨w.heap.size, i, none⟩ = some (.int .i64 (cnt a b c d e i)) := by
    intro i hi
    rw [(h.bel.cell (p := ⟨w.heap.size, i, none⟩) (Nat.lt_succ_self _)), World.cell?_alloc_at _ _ _ _ rfl]
    match i, hi with
    | 0, _ => rfl
    | 1, _ => rfl
    | 2, _ => rfl
    | 3, _ => rfl
    | 4, _ => rfl
  exact ⟨⟨key 0 (by omega), key 1 (by omega), key 2 (by omega), key 3 (by omega), key 4 (by omega)⟩, key J hJ, by rw [(h.five J hJ).1, hf], h⟩

/-- The last class that was seen. -/
def lastOf (a b c d e : Int) (k : Nat) : Int := if k = 0 then 0 else kindOf a b c d e k

set_option maxHeartbeats 2000000 in
set_option maxRecDepth 100000 in
theorem walkOrder (a b c d e k : Int) (w : World) (w1 : (Lit.int .u8 k).wf = true) :
    Calls Try.prog 6 #[.agg #[.int .i64 a, .int .i64 b, .int .i64 c, .int .i64 d, .int .i64 e], .int .u8 k] w fun r w' => r = .returned (.bool true) ∧ Below w.heap.size w w' := by
  obtain ⟨k0, k1⟩ := bounds_u8 w1; clear w1
  obtain ⟨L, hL⟩ : ∃ L, pre a b c d e 5 = L := ⟨_, rfl⟩
  have hn := pre_length a b c d e
  have hat := pre_at a b c d e
  have hws := wsum_pre a b c d e
  have h60 := pre_len a b c d e 5
  rw [hL] at hn hat hws h60
  have hkb : ∀ i : Nat, i < L.length → 0 ≤ kindOf a b c d e (i + 1) ∧ kindOf a b c d e (i + 1) ≤ 4 ∧ kindOf a b c d e i ≤ kindOf a b c d e (i + 1) := fun i hi => kind_bd a b c d e i (by omega)
  have HN := Lib.hid hn.symm; have HAT := Lib.hid hat; have HWS := Lib.hid hws.symm; have HL := Lib.hid hL; have HKB := Lib.hid hkb
  clear hn hat hws hL hkb
  go_enter Try.func6, Try.ntmps6
  go_wp2_with (first
    | (go_at_call 8; (with_reducible refine (awake_any _).mono ?_); rintro r w1 ⟨rfl, hb1⟩; obtain ⟨hc, hf⟩ := bcell hb1; have hz : w.heap.size < w1.heap.size := (by have := hb1.size; simp at this; omega))
    | (go_at_call 16; (with_reducible refine (nodes_is _ _ _ _ _ _ HN.out _).mono ?_); rintro r w2 ⟨rfl, hb2⟩; have hb1 := below_step hb1 hb1.size hb2))
  have HF0 : Hid (Five (w2.alloc (.cells #[.int .i64 0, .int .i64 0, .int .i64 0, .int .i64 0, .int .i64 0] 25)) w2.heap.size (cn [])) := by
    intro j hj
    refine ⟨?_, World.frozen?_alloc_at _ _ _ _ rfl⟩
    rw [World.cell?_alloc_at _ _ _ _ rfl, cn_nil]
    match j, hj with
    | 0, _ => rfl
    | 1, _ => rfl
    | 2, _ => rfl
    | 3, _ => rfl
    | 4, _ => rfl
  have HB0 := Lib.hid ((hb1.mono (by simp : w.heap.size + 1 ≤ _)).alloc (by have := hb1.size; simpa using this) (.cells #[.int .i64 0, .int .i64 0, .int .i64 0, .int .i64 0, .int .i64 0] 25))
  have hM : w.heap.size < w2.heap.size := by have := hb1.size; simp at this; omega
  go_loopw [7, 9, 10] (fun l ws v wr => ∃ i : Nat, i ≤ L.length ∧ v = .int .i64 (i + 1) ∧ l = .int .i64 (lastOf a b c d e i) ∧ ws = .int .i64 (wsum (L.take i)) ∧
      Five wr w2.heap.size (cn (L.take i)) ∧ w2.heap.size < wr.heap.size ∧ Below (w.heap.size + 1) (w.alloc (.cells #[.int .i64 a, .int .i64 b, .int .i64 c, .int .i64 d, .int .i64 e] 25)) wr) (fun _ _ v _ => (L.length + 1) - (intOf v).toNat)
  case atStart => exact ⟨0, by omega, rfl, rfl, rfl, HF0.out, by simp, HB0.out⟩
  case round =>
    obtain ⟨i, hi, rfl, rfl, rfl, h5, hsz, hbw⟩ := hrel
    have H5 := Lib.hid h5; clear h5
    have hcb := hbw.size
    obtain ⟨s0, s1⟩ := wsum_bd (L.take i)
    have s2 : (L.take i).length ≤ i := List.length_take_le _ _
    by_cases hlt : i < L.length
    · have hst := Lib.hid (wsum_take L i hlt)
      have hct := Lib.hid (fun j => cn_take L i j hlt)
      have hka := Lib.hid (HAT.out i hlt)
      obtain ⟨q0, q1, q2⟩ := HKB.out i hlt
      have hl : lastOf a b c d e i ≤ kindOf a b c d e (i + 1) := by unfold lastOf; split <;> omega
      have h5c : kindOf a b c d e (i + 1) = 0 ∨ kindOf a b c d e (i + 1) = 1 ∨ kindOf a b c d e (i + 1) = 2 ∨ kindOf a b c d e (i + 1) = 3 ∨ kindOf a b c d e (i + 1) = 4 := by omega
      clear q0 q1 q2
      obtain ⟨hc, hf⟩ := bcell' hbw
      rcases h5c with hk | hk | hk | hk | hk
      · rw [hk] at hl
        obtain ⟨c0, c1⟩ := cn_bd (L.take i) 0
        have HK := Lib.hid hk; clear hk
        go_wp2_with (first
          | (go_at_call 18; (with_reducible refine (class_is _ _ _ _ _ _ _ HK.out _).mono ?_); rintro r w3 ⟨rfl, hb3⟩; have hbw := below_step hbw (by simp at hcb; omega) hb3; have H5 := Lib.hid (H5.out.below hb3 hsz); have hsz2 := Nat.lt_of_lt_of_le hsz hb3.size; obtain ⟨hq, hqf⟩ := H5.out 0 (by omega))
          | (go_at_call 13; (with_reducible refine (words_is 0 2 (by decide) _).mono ?_); rintro r w4 ⟨rfl, rfl⟩))
        go_roundw
        case rel =>
          refine ⟨i + 1, by omega, by go_num, ?_, ?_, ?_, ?_, ?_⟩
          · exact congrArg (Value.int .i64) (by unfold lastOf; rw [if_neg (by omega)]; have := HK.out; simp; omega)
          · exact congrArg (Value.int .i64) (by rw [hst.out, hka.out, HK.out]; rfl)
          · exact H5.out.set (by omega) (by rw [hct.out, hka.out, HK.out]; rfl) (fun j hj => by rw [hct.out, hka.out, HK.out, if_neg (by omega)]; omega)
          · simpa using hsz2
          · exact hbw.setCell (by have := hb1.size; simp at this ⊢; omega) _
        case measure => simp [intOf]; omega
      · rw [hk] at hl
        obtain ⟨c0, c1⟩ := cn_bd (L.take i) 1
        have HK := Lib.hid hk; clear hk
        go_wp2_with (first
          | (go_at_call 18; (with_reducible refine (class_is _ _ _ _ _ _ _ HK.out _).mono ?_); rintro r w3 ⟨rfl, hb3⟩; have hbw := below_step hbw (by simp at hcb; omega) hb3; have H5 := Lib.hid (H5.out.below hb3 hsz); have hsz2 := Nat.lt_of_lt_of_le hsz hb3.size; obtain ⟨hq, hqf⟩ := H5.out 1 (by omega))
          | (go_at_call 13; (with_reducible refine (words_is 1 3 (by decide) _).mono ?_); rintro r w4 ⟨rfl, rfl⟩))
        go_roundw
        case rel =>
          refine ⟨i + 1, by omega, by go_num, ?_, ?_, ?_, ?_, ?_⟩
          · exact congrArg (Value.int .i64) (by unfold lastOf; rw [if_neg (by omega)]; have := HK.out; simp; omega)
          · exact congrArg (Value.int .i64) (by rw [hst.out, hka.out, HK.out]; rfl)
          · exact H5.out.set (by omega) (by rw [hct.out, hka.out, HK.out]; rfl) (fun j hj => by rw [hct.out, hka.out, HK.out, if_neg (by omega)]; omega)
          · simpa using hsz2
          · exact hbw.setCell (by have := hb1.size; simp at this ⊢; omega) _
        case measure => simp [intOf]; omega
      · rw [hk] at hl
        obtain ⟨c0, c1⟩ := cn_bd (L.take i) 2
        have HK := Lib.hid hk; clear hk
        go_wp2_with (first
          | (go_at_call 18; (with_reducible refine (class_is _ _ _ _ _ _ _ HK.out _).mono ?_); rintro r w3 ⟨rfl, hb3⟩; have hbw := below_step hbw (by simp at hcb; omega) hb3; have H5 := Lib.hid (H5.out.below hb3 hsz); have hsz2 := Nat.lt_of_lt_of_le hsz hb3.size; obtain ⟨hq, hqf⟩ := H5.out 2 (by omega))
          | (go_at_call 13; (with_reducible refine (words_is 2 5 (by decide) _).mono ?_); rintro r w4 ⟨rfl, rfl⟩))
        go_roundw
        case rel =>
          refine ⟨i + 1, by omega, by go_num, ?_, ?_, ?_, ?_, ?_⟩
          · exact congrArg (Value.int .i64) (by unfold lastOf; rw [if_neg (by omega)]; have := HK.out; simp; omega)
          · exact congrArg (Value.int .i64) (by rw [hst.out, hka.out, HK.out]; rfl)
          · exact H5.out.set (by omega) (by rw [hct.out, hka.out, HK.out]; rfl) (fun j hj => by rw [hct.out, hka.out, HK.out, if_neg (by omega)]; omega)
          · simpa using hsz2
          · exact hbw.setCell (by have := hb1.size; simp at this ⊢; omega) _
        case measure => simp [intOf]; omega
      · rw [hk] at hl
        obtain ⟨c0, c1⟩ := cn_bd (L.take i) 3
        have HK := Lib.hid hk; clear hk
        go_wp2_with (first
          | (go_at_call 18; (with_reducible refine (class_is _ _ _ _ _ _ _ HK.out _).mono ?_); rintro r w3 ⟨rfl, hb3⟩; have hbw := below_step hbw (by simp at hcb; omega) hb3; have H5 := Lib.hid (H5.out.below hb3 hsz); have hsz2 := Nat.lt_of_lt_of_le hsz hb3.size; obtain ⟨hq, hqf⟩ := H5.out 3 (by omega))
          | (go_at_call 13; (with_reducible refine (words_is 3 9 (by decide) _).mono ?_); rintro r w4 ⟨rfl, rfl⟩))
        go_roundw
        case rel =>
          refine ⟨i + 1, by omega, by go_num, ?_, ?_, ?_, ?_, ?_⟩
          · exact congrArg (Value.int .i64) (by unfold lastOf; rw [if_neg (by omega)]; have := HK.out; simp; omega)
          · exact congrArg (Value.int .i64) (by rw [hst.out, hka.out, HK.out]; rfl)
          · exact H5.out.set (by omega) (by rw [hct.out, hka.out, HK.out]; rfl) (fun j hj => by rw [hct.out, hka.out, HK.out, if_neg (by omega)]; omega)
          · simpa using hsz2
          · exact hbw.setCell (by have := hb1.size; simp at this ⊢; omega) _
        case measure => simp [intOf]; omega
      · rw [hk] at hl
        obtain ⟨c0, c1⟩ := cn_bd (L.take i) 4
        have HK := Lib.hid hk; clear hk
        go_wp2_with (first
          | (go_at_call 18; (with_reducible refine (class_is _ _ _ _ _ _ _ HK.out _).mono ?_); rintro r w3 ⟨rfl, hb3⟩; have hbw := below_step hbw (by simp at hcb; omega) hb3; have H5 := Lib.hid (H5.out.below hb3 hsz); have hsz2 := Nat.lt_of_lt_of_le hsz hb3.size; obtain ⟨hq, hqf⟩ := H5.out 4 (by omega))
          | (go_at_call 13; (with_reducible refine (words_is 4 17 (by decide) _).mono ?_); rintro r w4 ⟨rfl, rfl⟩))
        go_roundw
        case rel =>
          refine ⟨i + 1, by omega, by go_num, ?_, ?_, ?_, ?_, ?_⟩
          · exact congrArg (Value.int .i64) (by unfold lastOf; rw [if_neg (by omega)]; have := HK.out; simp; omega)
          · exact congrArg (Value.int .i64) (by rw [hst.out, hka.out, HK.out]; rfl)
          · exact H5.out.set (by omega) (by rw [hct.out, hka.out, HK.out]; rfl) (fun j hj => by rw [hct.out, hka.out, HK.out, if_neg (by omega)]; omega)
          · simpa using hsz2
          · exact hbw.setCell (by have := hb1.size; simp at this ⊢; omega) _
        case measure => simp [intOf]; omega
    · obtain rfl : i = L.length := by omega
      rw [List.take_length] at s0 s1 H5 ⊢
      obtain ⟨hc, hf⟩ := bcell' hbw
      obtain ⟨J, hJ⟩ : ∃ J : Nat, k % 5 = J := ⟨(k % 5).toNat, by omega⟩
      have hJ5 : J < 5 := by omega
      have j0 : (0 : Int) ≤ (J : Int) := by omega
      have j1 : (J : Int) < 5 := by omega
      have hcJ : (wr.alloc (.cells #[.int .i64 a, .int .i64 b, .int .i64 c, .int .i64 d, .int .i64 e] 25)).cell? ⟨wr.heap.size, J, none⟩ = some (.int .i64 (cnt a b c d e J)) := by
        rw [World.cell?_alloc_at _ _ _ _ rfl]
        match J, hJ5 with
        | 0, _ => rfl
        | 1, _ => rfl
        | 2, _ => rfl
        | 3, _ => rfl
        | 4, _ => rfl
      have HA : Hid (kindOf a b c d e (L.length + 1) = -1) := by
        have := HN.out
        have := many_bd a; have := many_bd b; have := many_bd c; have := many_bd d; have := many_bd e
        show kindOf a b c d e (L.length + 1) = -1
        unfold kindOf; omega
      have HZ : Hid (kindOf a b c d e 0 = -1) := rfl
      go_upto_if 57 with (fail)
      go_cut [13] (fun s13 wx => s13 = .int .i64 (J : Int) ∧ KK w.heap.size w2.heap.size (w.alloc (.cells #[.int .i64 a, .int .i64 b, .int .i64 c, .int .i64 d, .int .i64 e] 25)) (cn L) wx)
      case first =>
        have hcb : w.heap.size + 1 ≤ wr.heap.size := by simpa using hcb
        have hk0 : KK w.heap.size w2.heap.size (w.alloc (.cells #[.int .i64 a, .int .i64 b, .int .i64 c, .int .i64 d, .int .i64 e] 25)) (cn L) wr := ⟨H5.out, hsz, hcb, hbw⟩
        have cs : J = 0 ∨ J = 1 ∨ J = 2 ∨ J = 3 ∨ J = 4 := by omega
        clear hcJ j0 j1
        rcases cs with rfl | rfl | rfl | rfl | rfl
        · have e0 : cnt a b c d e 0 = a := rfl
          have e1 : k % 5 = 0 := hJ
          clear hJ
          by_cases h12 : a < 12
          · obtain ⟨x0, x1⟩ := imax_bd a h12
            have hb : decide (a < 12) = true := by simpa using h12
            have HT := Lib.hid (show many (imax a 0 + 1) * 2 + many b * 3 + many c * 5 + many d * 9 + many e * 17 = wsum L + 2 by rw [many_more a h12, ← HWS.out]; omega)
            go_wp2_with (first
              | (go_at_call 17; (with_reducible refine (total_is _ _ _ _ _ _ HT.out _).mono ?_); rintro r w3 ⟨rfl, hb3⟩)
              | (go_at_call 13; (with_reducible refine (words_is 0 2 (by decide) _).mono ?_); rintro r w4 ⟨rfl, rfl⟩))
            go_meet
            exact ⟨rfl, (hk0.step ((Below.refl _ _).alloc (Nat.le_refl _) _)).step hb3⟩
          · have hb : decide (a < 12) = false := by simpa using h12
            go_wp2_with (fail)
            go_meet
            exact ⟨rfl, hk0.step ((Below.refl _ _).alloc (Nat.le_refl _) _)⟩
        · have e0 : cnt a b c d e 1 = b := rfl
          have e1 : k % 5 = 1 := hJ
          clear hJ
          by_cases h12 : b < 12
          · obtain ⟨x0, x1⟩ := imax_bd b h12
            have hb : decide (b < 12) = true := by simpa using h12
            have HT := Lib.hid (show many a * 2 + many (imax b 0 + 1) * 3 + many c * 5 + many d * 9 + many e * 17 = wsum L + 3 by rw [many_more b h12, ← HWS.out]; omega)
            go_wp2_with (first
              | (go_at_call 17; (with_reducible refine (total_is _ _ _ _ _ _ HT.out _).mono ?_); rintro r w3 ⟨rfl, hb3⟩)
              | (go_at_call 13; (with_reducible refine (words_is 1 3 (by decide) _).mono ?_); rintro r w4 ⟨rfl, rfl⟩))
            go_meet
            exact ⟨rfl, (hk0.step ((Below.refl _ _).alloc (Nat.le_refl _) _)).step hb3⟩
          · have hb : decide (b < 12) = false := by simpa using h12
            go_wp2_with (fail)
            go_meet
            exact ⟨rfl, hk0.step ((Below.refl _ _).alloc (Nat.le_refl _) _)⟩
        · have e0 : cnt a b c d e 2 = c := rfl
          have e1 : k % 5 = 2 := hJ
          clear hJ
          by_cases h12 : c < 12
          · obtain ⟨x0, x1⟩ := imax_bd c h12
            have hb : decide (c < 12) = true := by simpa using h12
            have HT := Lib.hid (show many a * 2 + many b * 3 + many (imax c 0 + 1) * 5 + many d * 9 + many e * 17 = wsum L + 5 by rw [many_more c h12, ← HWS.out]; omega)
            go_wp2_with (first
              | (go_at_call 17; (with_reducible refine (total_is _ _ _ _ _ _ HT.out _).mono ?_); rintro r w3 ⟨rfl, hb3⟩)
              | (go_at_call 13; (with_reducible refine (words_is 2 5 (by decide) _).mono ?_); rintro r w4 ⟨rfl, rfl⟩))
            go_meet
            exact ⟨rfl, (hk0.step ((Below.refl _ _).alloc (Nat.le_refl _) _)).step hb3⟩
          · have hb : decide (c < 12) = false := by simpa using h12
            go_wp2_with (fail)
            go_meet
            exact ⟨rfl, hk0.step ((Below.refl _ _).alloc (Nat.le_refl _) _)⟩
        · have e0 : cnt a b c d e 3 = d := rfl
          have e1 : k % 5 = 3 := hJ
          clear hJ
          by_cases h12 : d < 12
          · obtain ⟨x0, x1⟩ := imax_bd d h12
            have hb : decide (d < 12) = true := by simpa using h12
            have HT := Lib.hid (show many a * 2 + many b * 3 + many c * 5 + many (imax d 0 + 1) * 9 + many e * 17 = wsum L + 9 by rw [many_more d h12, ← HWS.out]; omega)
            go_wp2_with (first
              | (go_at_call 17; (with_reducible refine (total_is _ _ _ _ _ _ HT.out _).mono ?_); rintro r w3 ⟨rfl, hb3⟩)
              | (go_at_call 13; (with_reducible refine (words_is 3 9 (by decide) _).mono ?_); rintro r w4 ⟨rfl, rfl⟩))
            go_meet
            exact ⟨rfl, (hk0.step ((Below.refl _ _).alloc (Nat.le_refl _) _)).step hb3⟩
          · have hb : decide (d < 12) = false := by simpa using h12
            go_wp2_with (fail)
            go_meet
            exact ⟨rfl, hk0.step ((Below.refl _ _).alloc (Nat.le_refl _) _)⟩
        · have e0 : cnt a b c d e 4 = e := rfl
          have e1 : k % 5 = 4 := hJ
          clear hJ
          by_cases h12 : e < 12
          · obtain ⟨x0, x1⟩ := imax_bd e h12
            have hb : decide (e < 12) = true := by simpa using h12
            have HT := Lib.hid (show many a * 2 + many b * 3 + many c * 5 + many d * 9 + many (imax e 0 + 1) * 17 = wsum L + 17 by rw [many_more e h12, ← HWS.out]; omega)
            go_wp2_with (first
              | (go_at_call 17; (with_reducible refine (total_is _ _ _ _ _ _ HT.out _).mono ?_); rintro r w3 ⟨rfl, hb3⟩)
              | (go_at_call 13; (with_reducible refine (words_is 4 17 (by decide) _).mono ?_); rintro r w4 ⟨rfl, rfl⟩))
            go_meet
            exact ⟨rfl, (hk0.step ((Below.refl _ _).alloc (Nat.le_refl _) _)).step hb3⟩
          · have hb : decide (e < 12) = false := by simpa using h12
            go_wp2_with (fail)
            go_meet
            exact ⟨rfl, hk0.step ((Below.refl _ _).alloc (Nat.le_refl _) _)⟩
      case rest =>
        obtain ⟨rfl, hcut⟩ := hcut
        clear hc hf
        have hLJ : cn L (J : Int) = many (cnt a b c d e J) := by have := cn_pre a b c d e J hJ5; rw [HL.out] at this; exact this
        have HLJ := Lib.hid hLJ; clear hLJ
        obtain ⟨⟨q0, q1, q2, q3, q4⟩, q5, q6, _⟩ := hcut.cells hJ5 HLJ.out
        have hsum : IntKind.i64.wrap ((L.length : Int) + 1) = (L.length : Int) + 1 := IntWalk.i64_in _ (by omega)
        go_wp2_with (fail)
        go_region_held3 (fun w' => (w'.cell? ⟨w.heap.size, 0, none⟩ = some (.int .i64 a) ∧ w'.cell? ⟨w.heap.size, 1, none⟩ = some (.int .i64 b) ∧ w'.cell? ⟨w.heap.size, 2, none⟩ = some (.int .i64 c) ∧ w'.cell? ⟨w.heap.size, 3, none⟩ = some (.int .i64 d) ∧ w'.cell? ⟨w.heap.size, 4, none⟩ = some (.int .i64 e)) ∧
            w'.cell? ⟨w.heap.size, J, none⟩ = some (.int .i64 (cnt a b c d e J)) ∧ w'.cell? ⟨w2.heap.size, J, none⟩ = some (.int .i64 (many (cnt a b c d e J))) ∧ KK w.heap.size w2.heap.size (w.alloc (.cells #[.int .i64 a, .int .i64 b, .int .i64 c, .int .i64 d, .int .i64 e] 25)) (cn L) w')
          (first | exact KK.cells hJ5 HLJ.out (by assumption) | exact KK.cells hJ5 HLJ.out (KK.drew (by assumption)) | go_keep)
          (first
            | (go_at_call 17; (with_reducible refine (total_is _ _ _ _ _ _ HWS.out _).mono ?_); rintro r w4 ⟨rfl, hb4⟩; have hkk := KK.more (by assumption) hb4)
            | (go_at_call 18; (with_reducible refine (class_is _ _ _ _ _ _ _ HA.out _).mono ?_); rintro r w4 ⟨rfl, hb4⟩; have hkk := KK.more (by assumption) hb4)
            | (go_at_call 18; (with_reducible refine (class_is _ _ _ _ _ _ _ HZ.out _).mono ?_); rintro r w4 ⟨rfl, hb4⟩; have hkk := KK.more (by assumption) hb4))
        all_goals (go_wp2_with (fail))
        all_goals go_ret
        all_goals refine ⟨?_, KK.fin (by assumption)⟩
        all_goals (show Ending.returned (.bool (many (cnt a b c d e J) == imin (imax (cnt a b c d e J) 0) 12)) = _; simp [many])
end Go.Proofs.Ytefnkfdlcbdfgaa
