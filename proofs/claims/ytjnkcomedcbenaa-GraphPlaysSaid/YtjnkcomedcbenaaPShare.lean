/- The first roots of all mutators; walked. -/
import Derived.Test.YtjnkcomedcbenaaPRep
namespace Go.Proofs.Ytjnkcomedcbenaa
open Go.RowKit
set_option linter.unusedVariables false

def shareL (v : Int) (n k : Nat) : List (List Int) := List.replicate k [v] ++ List.replicate (n - k) []
theorem shareL_len (v : Int) {n k : Nat} (h : k ≤ n) : (shareL v n k).length = n := by simp [shareL]; omega
theorem shareL_set (v : Int) {n k : Nat} (h : k < n) : (shareL v n k).set k [v] = shareL v n (k + 1) := by
  unfold shareL
  have e : n - k = (n - (k + 1)) + 1 := by omega
  rw [e, List.replicate_succ, List.set_append_right _ _ (by simp), List.length_replicate, Nat.sub_self, List.set_cons_zero]
  rw [List.replicate_succ' (n := k), List.append_assoc, List.singleton_append]
theorem shareL_zero (v : Int) (n : Nat) : shareL v n 0 = List.replicate n [] := by simp [shareL]
theorem shareL_all (v : Int) (n : Nat) : shareL v n n = List.replicate n [v] := by simp [shareL]

section
variable {w0 w w1 w' : World} {S R : Nat} {t : Nat → Tag} {rv sv : List Value} {N : Value} {g g' : Gr}
theorem PM.tag (h : PM w S R t rv sv N g) {G : Nat} (hG : G < w.heap.size) (ht : t G = .out) : PM w S R (fun k => if k = G then .all else t k) rv sv N g := by
  have hne : ∀ k, t k ≠ .out → (if k = G then Tag.all else t k) = t k := fun k hk => by
    have : k ≠ G := fun e => hk (e ▸ ht)
    simp [this]
  refine ⟨fun k hk => ?_, (hne S (by rw [h.tS]; simp)).trans h.tS, (hne R (by rw [h.tR]; simp)).trans h.tR, fun k e => (hne k (by rw [h.tN k e]; simp)).trans (h.tN k e), h.hS, h.hR, h.rl, h.hN, fun m hm => (h.lists m hm).kept fun k hk ht' => ⟨rfl, hne k (by rcases ht' with e | e <;> rw [e] <;> simp)⟩, fun v hv => (h.slots v hv).kept fun k hk ht' => ⟨rfl, hne k (by rw [ht']; simp)⟩⟩
  by_cases e : k = G
  · rw [e]; exact hG
  · simp only [e, if_false] at hk; exact h.low k hk
/-- One mutator more has its place among the first roots. -/
structure Shd (w0 w : World) (S R G : Nat) (t : Nat → Tag) (rv sv : List Value) (N : Value) (v : Int) (n k : Nat) (nodes : List (List Int)) (most : Int) : Prop where
  pm : PM w S R t rv sv N ⟨shareL v n k, nodes, most⟩
  tG : t G = .all
  row : w.heap[G]? = some (.cells (List.replicate n (Value.int .i64 v)).toArray 3 (0, 0))
  bel : Below w0.heap.size w0 w
  lo : ∀ k, t k ≠ .out → w0.heap.size ≤ k
theorem Shd.next {G n k : Nat} {v : Int} {nodes : List (List Int)} {most : Int} (h : Shd w0 w S R G t rv sv N v n k nodes most) (hk : k < n) : Shd w0 (w.setCell ⟨R, k, none⟩ (.slice (some ⟨G, k, none⟩) 1 1)).drew S R G t (rv.set k (.slice (some ⟨G, k, none⟩) 1 1)) sv N v n (k + 1) nodes most := by
  have hL : LList w t k (.slice (some ⟨G, k, none⟩) 1 1) [v] := .inr ⟨G, _, rfl, h.tG, h.row, Nat.le_refl _, by simpa using hk, fun j hj => by
    have : j = 0 := by simpa using hj
    subst this
    simp [hk, num]⟩
  have hu := h.pm.upR_set (i := k) (by rw [shareL_len v (Nat.le_of_lt hk)]; exact hk) hL 0 1
  have e : (shareL v n k).set k [v] = shareL v n (k + 1) := shareL_set v hk
  refine ⟨by have := hu.1; simp only [e] at this; exact this, h.tG, ?_, ?_, h.lo⟩
  · have hGR : G ≠ R := fun e => by have := h.tG; rw [e, h.pm.tR] at this; cases this
    exact (heap_setCell_other w ⟨R, k, none⟩ G _ hGR).trans h.row
  · exact (h.bel.setCell (h.lo R (by rw [h.pm.tR]; simp)) _).drew
theorem Shd.drewless {G n k : Nat} {v : Int} {nodes : List (List Int)} {most : Int} (h : Shd w0 w S R G t rv sv N v n k nodes most) (hk : k < n) : w.cell? ⟨S, 1, none⟩ = some (.slice (some ⟨R, 0, none⟩) n n) ∧ (∃ V, w.cell? ⟨R, k, none⟩ = some V) ∧ w.frozen? ⟨R, k, none⟩ = false := by
  have c1 := h.pm.c1
  rw [shareL_len v (Nat.le_of_lt hk)] at c1
  exact ⟨c1, ⟨_, h.pm.cR k (by rw [shareL_len v (Nat.le_of_lt hk)]; exact hk)⟩, h.pm.fR k⟩
theorem Shd.start {n : Nat} {v : Int} {nodes : List (List Int)} {most : Int} {w2 : World} {o : Obj} (h : PM w S R t rv sv N ⟨List.replicate n [], nodes, most⟩) (hbel : Below w0.heap.size w0 w) (hlo : ∀ k, t k ≠ .out → w0.heap.size ≤ k)
    (hG : w2.heap[(w.alloc o).heap.size]? = some (.cells (List.replicate n (Value.int .i64 v)).toArray 3 (0, 0))) (hb : Below (w.alloc o).heap.size (w.alloc o) w2) : Shd w0 w2 S R (w.heap.size + 1) (fun k => if k = w.heap.size + 1 then .all else t k) rv sv N v n 0 nodes most := by
  have hs : (w.alloc o).heap.size = w.heap.size + 1 := by simp
  have hb2 : Below w.heap.size w w2 := (below_alloc0 (Below.refl _ _) o).trans (hb.mono (by omega))
  rw [hs] at hG
  refine ⟨by rw [shareL_zero]; exact (h.below hb2).tag (lt_of hG) (Classical.byContradiction fun e => by have := h.low _ e; omega), by simp, hG, below_step hbel hbel.size hb2, fun k hk => ?_⟩
  by_cases e : k = w.heap.size + 1
  · have := hbel.size; omega
  · simp only [e, if_false] at hk; exact hlo k hk
/-- What share leaves. -/
def SomeShared (w0 : World) (S R : Nat) (sv : List Value) (N : Value) (g' : Gr) (e : Ending) (w' : World) : Prop :=
  e = .returned (.tuple #[]) ∧ ∃ t' rv', PM w' S R t' rv' sv N g' ∧ Below w0.heap.size w0 w' ∧ ∀ k, t' k ≠ .out → w0.heap.size ≤ k

set_option maxRecDepth 100000 in
theorem slice_three (b k n : Nat) (h : k < n) (w : World) : (Instr.slice 43 (.slice (some ⟨b, 0, none⟩) n n) (some (.int .i64 (k : Int))) (some (.int .i64 ((k : Int) + 1))) (some (.int .i64 ((k : Int) + 1)))).run Try.prog w = .ok (.slice (some ⟨b, k, none⟩) 1 1) w := by
  have e := run_slice_lhm (P := Try.prog) w 43 (some ⟨b, 0, none⟩) n n Try.underlying43 .i64 .i64 .i64 (k : Int) ((k : Int) + 1) ((k : Int) + 1) (by omega) (by omega) (by omega) (by omega)
  rw [e]
  simp [sliced, go_sem]

set_option maxRecDepth 100000 in
set_option maxHeartbeats 4000000 in
theorem shareP {n : Nat} {nodes : List (List Int)} {most : Int} (h : PM w S R t rv sv N ⟨List.replicate n [], nodes, most⟩) (hn : n ≤ 16) (v : Int) (hbel : Below w0.heap.size w0 w) (hlo : ∀ k, t k ≠ .out → w0.heap.size ≤ k) (h0 : 0 ≤ most) :
    Calls Try.prog 30 #[ptr S, .int .i64 v] w (SomeShared w0 S R sv N ⟨List.replicate n (if 0 < most then [v] else []), nodes, most⟩) := by
  have c0 := h.c0
  by_cases hm : most = 0
  · subst hm
    have H := Lib.hid h; have HB := Lib.hid hbel; have HL := Lib.hid hlo
    clear h hbel hlo h0
    go_enter Try.func30, Try.ntmps30
    go_wp2_with (fail)
    go_returns
    exact ⟨rfl, t, rv, by simpa using H.out, HB.out, HL.out⟩
  · have hme : (most == 0) = false := by rw [beq_eq_false_iff_ne]; exact hm
    rw [if_pos (by omega)]
    have c1 := h.c1
    rw [List.length_replicate] at c1
    have H := Lib.hid h; have HB := Lib.hid hbel; have HL := Lib.hid hlo; have HN := Lib.hid hn
    have k1 := (h.below (below_alloc0 (Below.refl _ _) (.cells #[.int .i64 v] 3))).c1
    rw [List.length_replicate] at k1
    clear h hbel hlo h0 hm hn
    go_enter Try.func30, Try.ntmps30
    go_wp2_with (first
      | (go_at_call 48; (with_reducible refine (repeatP _ n v _ HN.out (World.cell?_alloc_at _ _ _ _ rfl) (by simp)).mono ?_); rintro r w2 ⟨rfl, hG, hb⟩; have HS := Lib.hid (Shd.start H.out HB.out HL.out hG hb); have c1b := HS.out.pm.c1; rw [shareL_len v (Nat.zero_le _)] at c1b; clear hG hb)
      | fail)
    go_loopw [24] (fun s wr => ∃ (k : Nat) (rv' : List Value), k ≤ n ∧ s = .int .i64 (k : Int) ∧ Shd w0 wr S R (w.heap.size + 1) (fun k => if k = w.heap.size + 1 then .all else t k) rv' sv N v n k nodes most) (fun s _ => n - (intOf s).toNat)
    case atStart => exact ⟨0, rv, Nat.zero_le _, rfl, HS.out⟩
    case round =>
      obtain ⟨k, rv', hkn, rfl, hs⟩ := hrel
      by_cases hlt : k < n
      · obtain ⟨d1, ⟨V, d2⟩, d3⟩ := hs.drewless hlt
        have HSS := Lib.hid hs
        have HLT := Lib.hid hlt
        have i0 : (0 : Int) ≤ (k : Int) := by omega
        have i1 : (k : Int) < (n : Int) := by omega
        have i2 : (k : Int) ≤ 16 := by have := HN.out; omega
        have hw1 : IntKind.i64.wrap ((k : Int) + 1) = (k : Int) + 1 := IntWalk.i64_in _ (by omega)
        have hs3 := slice_three (w.heap.size + 1) k n hlt
        clear hs hlt hkn c1 c1b k1 c0
        go_wp2_with (fail)
        go_region
        go_wp2
        go_roundw
        case rel => first | exact ⟨k + 1, _, by omega, by go_num, HSS.out.next HLT.out⟩ | exact ⟨k + 1, _, HLT.out, by go_num, HSS.out.next HLT.out⟩ | (trace_state; fail)
        case measure => simp [intOf]; have := HLT.out; omega
      · obtain rfl : k = n := by omega
        have HSS := Lib.hid hs
        have i1 : ¬ (k : Int) < (k : Int) := by omega
        clear hs hkn c1 c1b k1 c0
        go_wp2
        go_returns
        exact ⟨rfl, _, rv', by have := HSS.out.pm; rw [shareL_all] at this; exact this, HSS.out.bel, HSS.out.lo⟩
end
end Go.Proofs.Ytjnkcomedcbenaa
