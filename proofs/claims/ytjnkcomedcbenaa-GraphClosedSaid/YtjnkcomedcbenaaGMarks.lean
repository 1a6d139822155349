/- Two rows of marks beside a graph of the call's own; what they hold. -/
import Derived.Test.YtjnkcomedcbenaaGWas
import Derived.Test.YtjnkcomedcbenaaGReached
namespace Go.Proofs.Ytjnkcomedcbenaa
open Go.RowKit
set_option linter.unusedVariables false

theorem slots_u {w0 w : World} {S : Nat} {T F : Nat → Prop} {g : Gr} (h : GOwn w0 w S T F g) (hnn : g.nodes.length ≤ 1000) (v : Int) (hv : Bd v) : Calls Try.prog 24 #[ptr S, .int .i64 v] w (SomeRowT T F (slotsL g v) w) := slots_t h.gp h.ok h.mo hnn v hv.1 hv.2
theorem reach_u {w0 w : World} {S : Nat} {T F : Nat → Prop} {g : Gr} (h : GOwn w0 w S T F g) (hnn : g.nodes.length ≤ 1000) : Calls Try.prog 21 #[ptr S] w (SomeRowT T F (reachL g) w) := reach_t h.gp h.ok h.mo hnn
/-- The blocks that are none of the two. -/
abbrev Off (D E : Nat) : Nat → Prop := fun k => k ≠ D ∧ k ≠ E
structure Cl (w0 w' : World) (S : Nat) (T F : Nat → Prop) (g : Gr) (D E : Nat) (is ws : List Bool) : Prop where
  own : GOwn w0 w' S T F g
  lo : w0.heap.size ≤ D
  tD : ∀ k, T k → k < D
  DE : D < E
  bi : BRow w' D is
  bw : BRow w' E ws
section
variable {w0 w' w2 : World} {S : Nat} {T F : Nat → Prop} {g : Gr} {D E : Nat} {is ws : List Bool} {u : Value} {zs : List Int}
theorem Cl.start {w5 w6 : World} (h : GOwn w0 w5 S T F g) (C : Array Value) (is : List Bool) (hC : C = (is.map Value.bool).toArray) (hb : Below (w5.alloc (.cells C 4)).heap.size (w5.alloc (.cells C 4)) w6) : Cl w0 (w6.alloc (.cells C 4)) S T F g w5.heap.size w6.heap.size is is := by
  subst hC
  have hs := hb.size
  simp at hs
  refine ⟨((h.step (below_alloc0 (Below.refl _ _) _)).step hb).step (below_alloc0 (Below.refl _ _) _), h.bel.size, fun k hk => gp_lt h.gp k hk, by omega, ((brow_new _ _).kept hb).kept (below_alloc0 (Below.refl _ _) _), brow_new _ _⟩
theorem row_start {P : Nat → Prop} {w4 w5 w6 : World} {o1 o2 : Obj} (hr : RowV P w4 u zs) (hb5 : Below w4.heap.size w4 w5) (hb6 : Below (w5.alloc o1).heap.size (w5.alloc o1) w6) : RowV (Off w5.heap.size w6.heap.size) (w6.alloc o2) u zs := by
  have h1 := hb5.size
  have h2 := hb6.size
  simp at h2
  exact ((((hr.to (Q := Off w5.heap.size w6.heap.size) fun b hlt _ => ⟨by omega, by omega⟩).kept (Kept.below hb5)).kept (Kept.below (below_alloc0 (Below.refl _ _) _))).kept (Kept.below hb6)).kept (Kept.below (below_alloc0 (Below.refl _ _) _))
theorem Cl.step (h : Cl w0 w' S T F g D E is ws) (hb : Below w'.heap.size w' w2) : Cl w0 w2 S T F g D E is ws :=
  ⟨h.own.step hb, h.lo, h.tD, h.DE, h.bi.kept hb, h.bw.kept hb⟩
theorem GOwn.set (h : GOwn w0 w' S T F g) {d : Nat} (hd : w0.heap.size ≤ d) (ht : ¬ T d) (j : Nat) (v : Value) : GOwn w0 (w'.setCell ⟨d, j, none⟩ v) S T F g :=
  ⟨gp_kept h.gp (by simp) fun k hk => heap_setCell_other _ _ _ _ (fun e => ht (by rw [← show k = d from e]; exact hk)), h.bel.setCell hd _, h.lo, h.ok, h.mo⟩
theorem Cl.setI (h : Cl w0 w' S T F g D E is ws) (j : Nat) : Cl w0 (w'.setCell ⟨D, j, none⟩ (.bool true)) S T F g D E (is.set j true) ws :=
  ⟨h.own.set h.lo (fun ht => by have := h.tD D ht; omega) _ _, h.lo, h.tD, h.DE, h.bi.set j true, (heap_setCell_other _ _ _ _ (by have := h.DE; show E ≠ D; omega)).trans h.bw⟩
theorem Cl.setW (h : Cl w0 w' S T F g D E is ws) (j : Nat) : Cl w0 (w'.setCell ⟨E, j, none⟩ (.bool true)) S T F g D E is (ws.set j true) :=
  ⟨h.own.set (by have := h.lo; have := h.DE; omega) (fun ht => by have := h.tD E ht; have := h.DE; omega) _ _, h.lo, h.tD, h.DE, (heap_setCell_other _ _ _ _ (by have := h.DE; show D ≠ E; omega)).trans h.bi, h.bw.set j true⟩
theorem row_set1 (h : RowV (Off D E) w' u zs) (j : Nat) (v : Value) : RowV (Off D E) (w'.setCell ⟨D, j, none⟩ v) u zs :=
  h.kept ⟨by simp, fun k _ hp => heap_setCell_other _ _ _ _ hp.1⟩
theorem row_set2 (h : RowV (Off D E) w' u zs) (j : Nat) (v : Value) : RowV (Off D E) (w'.setCell ⟨E, j, none⟩ v) u zs :=
  h.kept ⟨by simp, fun k _ hp => heap_setCell_other _ _ _ _ hp.2⟩
/-- A list that is told lies off the marks. -/
theorem Cl.off (h : Cl w0 w' S T F g D E is ws) (hr : RowV (fun k => ¬ F k ∧ (T k ∨ w'.heap.size ≤ k)) w2 u zs) : RowV (Off D E) w2 u zs := hr.to fun b _ hp => by
  have h1 := (Array.getElem?_eq_some_iff.1 h.bw).1
  have h2 := h.DE
  rcases hp.2 with h3 | h3
  · have := h.tD b h3; constructor <;> omega
  · constructor <;> omega
end
/-! What is marked. -/
structure Mks (q : Nat) (R : List Int) (k : Nat) (is : List Bool) : Prop where
  len : is.length = q
  are : ∀ j, getB is j = true ↔ ∃ t, t < k ∧ num R t = (j : Int)
theorem mks_new (q : Nat) (R : List Int) : Mks q R 0 (List.replicate q false) := ⟨by simp, fun j => ⟨fun h => by
  simp [getB, List.getD, List.getElem?_replicate] at h
  split at h <;> simp at h, fun ⟨t, h, _⟩ => by omega⟩⟩
theorem Mks.step {q : Nat} {R : List Int} {k h : Nat} {is : List Bool} (hm : Mks q R k is) (hh : num R k = (h : Int)) (hq : h < q) : Mks q R (k + 1) (is.set h true) := by
  refine ⟨by rw [List.length_set]; exact hm.len, fun j => ?_⟩
  rw [getB_set]
  by_cases e : h = j
  · subst e
    rw [if_pos ⟨rfl, by rw [hm.len]; exact hq⟩]
    exact ⟨fun _ => ⟨k, Nat.lt_succ_self _, hh⟩, fun _ => rfl⟩
  · rw [if_neg (fun hc => e hc.1), hm.are]
    constructor
    · rintro ⟨t, h1, h2⟩; exact ⟨t, by omega, h2⟩
    · rintro ⟨t, h1, h2⟩
      by_cases e2 : t = k
      · subst e2; rw [hh] at h2; omega
      · exact ⟨t, by omega, h2⟩
theorem Mks.no {q : Nat} {R : List Int} {k h : Nat} {is : List Bool} (hm : Mks q R k is) (hr : R.Pairwise (· < ·)) (hk : k < R.length) (hh : num R k = (h : Int)) : getB is h = false := by
  cases e : getB is h
  · rfl
  · obtain ⟨t, h1, h2⟩ := (hm.are h).1 e
    have := List.pairwise_iff_getElem.1 hr t k (by omega) hk h1
    have e1 : R[t] = num R t := by have h3 : t < R.length := by omega
                                   simp [num, List.getD, h3]
    have e2 : R[k] = num R k := by simp [num, List.getD, hk]
    rw [e1, e2, h2, hh] at this
    omega
/-- All that may be told of a node that can be come to, or nil. -/
theorem Mks.all {g : Gr} (hk : Ok g) {is : List Bool} (hm : Mks (g.nodes.length + 1) (reachL g) (reachL g).length is) (h : Nat) (hh : (h : Int) = 0 ∨ Rch g h) : getB (is.set 0 true) h = true := by
  rw [getB_set]
  by_cases e : 0 = h
  · rw [if_pos ⟨e, by rw [hm.len]; omega⟩]
  · rw [if_neg (fun hc => e hc.1)]
    rcases hh with h1 | h1
    · omega
    · obtain ⟨t, ht, e1⟩ := List.getElem_of_mem ((mem_reachL hk).2 h1)
      exact (hm.are h).2 ⟨t, ht, by simp [num, List.getD, ht, e1]⟩
/-- Those are marked, at least. -/
structure Hs (q : Nat) (xs : List Int) (ws : List Bool) : Prop where
  len : ws.length = q
  are : ∀ z ∈ xs, getB ws z.toNat = true
theorem hs_new (q : Nat) : Hs q [] (List.replicate q false) := ⟨by simp, fun z hz => by simp at hz⟩
theorem Hs.step {q h : Nat} {xs : List Int} {ws : List Bool} (hs : Hs q xs ws) (hq : h < q) : Hs q (xs ++ [(h : Int)]) (ws.set h true) := by
  refine ⟨by rw [List.length_set]; exact hs.len, fun z hz => ?_⟩
  rw [getB_set]
  rcases List.mem_append.1 hz with h1 | h1
  · split
    · rfl
    · exact hs.are z h1
  · have := List.mem_singleton.1 h1
    rw [if_pos ⟨by omega, by rw [hs.len]; omega⟩]
theorem take_num (l : List Int) (k : Nat) (h : k < l.length) : l.take (k + 1) = l.take k ++ [num l k] := by
  rw [List.take_add_one, List.getElem?_eq_getElem h]
  simp [num, List.getD, h]
/-- All roots of the first mutators; all slots of the first of some nodes. -/
def rootsAll (g : Gr) : Nat → List Int
  | 0 => []
  | m + 1 => rootsAll g m ++ rootsL g m
def slotsAll (g : Gr) (R : List Int) : Nat → List Int
  | 0 => []
  | k + 1 => slotsAll g R k ++ slotsL g (num R k)
theorem mem_rootsAll {g : Gr} {m n : Nat} (h : m < n) {z : Int} (hz : z ∈ rootsL g m) : z ∈ rootsAll g n := by
  induction n with
  | zero => omega
  | succ n ih =>
    rw [rootsAll, List.mem_append]
    by_cases e : m = n
    · right; rw [← e]; exact hz
    · exact .inl (ih (by omega))
theorem mem_slotsAll {g : Gr} {R : List Int} {m n : Nat} (h : m < n) {z : Int} (hz : z ∈ slotsL g (num R m)) : z ∈ slotsAll g R n := by
  induction n with
  | zero => omega
  | succ n ih =>
    rw [slotsAll, List.mem_append]
    by_cases e : m = n
    · right; rw [← e]; exact hz
    · exact .inl (ih (by omega))
theorem num_mem {l : List Int} {k : Nat} (h : k < l.length) : num l k ∈ l := by
  have : num l k = l[k] := by simp [num, List.getD, h]
  rw [this]; exact List.getElem_mem h
/-- A node that can be come to is a root, or a slot of one that can be come to. -/
theorem rch_why {g : Gr} (hk : Ok g) {v : Int} (h : Rch g v) : v ∈ rootsAll g g.roots.length ++ slotsAll g (reachL g) (reachL g).length := by
  rw [List.mem_append]
  cases h with
  | root m a hm ha h0 =>
    left
    refine mem_rootsAll hm ?_
    unfold rootsL
    rw [if_pos (isIn_iff.2 (by omega)), Int.toNat_natCast]
    exact num_mem ha
  | slot u i hu hi h0 =>
    right
    obtain ⟨t, ht, e1⟩ := List.getElem_of_mem ((mem_reachL hk).2 hu)
    have h1 := rch_pos hu
    have h2 := rch_le hk hu
    refine mem_slotsAll ht ?_
    have e2 : num (reachL g) t = u := by simp [num, List.getD, ht, e1]
    rw [e2]
    unfold slotsL
    rw [if_pos (isIn_iff.2 (by omega))]
    exact num_mem hi
theorem root_told {g : Gr} (hk : Ok g) {m k : Nat} (h : k < (rootsL g m).length) : ∃ h : Nat, num (rootsL g m) k = (h : Int) ∧ h < g.nodes.length + 1 ∧ ((h : Int) = 0 ∨ Rch g h) := by
  unfold rootsL at h ⊢
  split at h
  · rename_i hi
    rw [if_pos hi]
    rw [Int.toNat_natCast] at h ⊢
    have := isIn_iff.1 hi
    have hb := hk.r m k (by omega) h
    obtain ⟨z, hz⟩ : ∃ z, z = num (row g.roots m) k := ⟨_, rfl⟩
    rw [← hz] at hb
    refine ⟨z.toNat, by rw [← hz]; omega, by omega, ?_⟩
    by_cases e : z = 0
    · left; omega
    · right
      rw [show ((z.toNat : Nat) : Int) = z by omega, hz]
      exact .root m k (by omega) h (by omega)
  · simp at h
theorem slot_told {g : Gr} (hk : Ok g) {v : Int} (hv : Rch g v) {k : Nat} (h : k < (slotsL g v).length) : ∃ h : Nat, num (slotsL g v) k = (h : Int) ∧ h < g.nodes.length + 1 ∧ ((h : Int) = 0 ∨ Rch g h) := by
  unfold slotsL at h ⊢
  split at h
  · rename_i hi
    rw [if_pos hi]
    have := isIn_iff.1 hi
    have hb := hk.n (v - 1).toNat k (by omega) h
    obtain ⟨z, hz⟩ : ∃ z, z = num (row g.nodes (v - 1).toNat) k := ⟨_, rfl⟩
    rw [← hz] at hb
    refine ⟨z.toNat, by rw [← hz]; omega, by omega, ?_⟩
    by_cases e : z = 0
    · left; omega
    · right
      rw [show ((z.toNat : Nat) : Int) = z by omega, hz]
      exact .slot v k hv h (by omega)
  · simp at h
theorem reach_told {g : Gr} (hk : Ok g) {k : Nat} (h : k < (reachL g).length) : ∃ h : Nat, num (reachL g) k = (h : Int) ∧ 1 ≤ h ∧ h < g.nodes.length + 1 ∧ Rch g h := by
  have hr := (mem_reachL hk).1 (num_mem h)
  have h1 := rch_pos hr
  have h2 := rch_le hk hr
  obtain ⟨z, hz⟩ : ∃ z, z = num (reachL g) k := ⟨_, rfl⟩
  rw [← hz] at hr h1 h2
  exact ⟨z.toNat, by rw [← hz]; omega, by omega, by omega, by rw [show ((z.toNat : Nat) : Int) = z by omega]; exact hr⟩
end Go.Proofs.Ytjnkcomedcbenaa
