/- Before and behind the steps of three: how rows begin, what is left to look at; walked. -/
import Derived.Test.YtbpkcoemehmpbaaSwAI
import Derived.Test.YtbpkcoemehmpbaaJ15
namespace Go.Proofs.Ytbpkcoemehmpbaa
open Go.RowKit
set_option linter.unusedVariables false
set_option linter.unusedSimpArgs false
set_option maxRecDepth 100000
open Lay (plcc plc shOf nodesN OkC Cfg Norm firstV Rep lenL partsC)

/-! Heads are put to nothing. -/
def HdZ (c : Cfg) (L : List Int) (k : Nat) : Prop := ∀ j : Nat, j < k → L.getD (plcc c 7 j 0).toNat 0 = 0
theorem Fil.hd {c : Cfg} {cy : Int} {L : List Int} (hc : OkC c) (h : Fil c cy L) {k : Nat} (hk : k < 5) (hz : HdZ c L k) : Fil c cy (ptq L (plcc c 7 k 0) 0) ∧ HdZ c (ptq L (plcc c 7 k 0) 0) (k + 1) := by
  have G := gw_is hc h.len
  obtain ⟨a, b, _⟩ := G.h k hk
  have hin : (0 : Int) ≤ ((wOf c).hk k).head ∧ ((wOf c).hk k).head < L.length := (G.k k hk).hd
  refine ⟨⟨by rw [pt_len]; exact h.len, (pt_other G.sw.1 (fun e => a e.symm)).trans h.sw, (pt_other G.dn.1 (fun e => b e.symm)).trans h.dn⟩, fun j hj => ?_⟩
  by_cases e : j = k
  · subst e; exact pt_same hin
  · have hj5 : j < 5 := by omega
    exact (pt_other (show 0 ≤ plcc c 7 j 0 from (G.k j hj5).hd.1) (fun x => e (G.kh j k hj5 hk x))).trans (hz j (by omega))
/-! How the rows begin. -/
/-- Three new machines, a store, the words as they were. -/
structure A3 (B S D N : Nat) (c : Cfg) (w0 w : World) (bs X0 X1 X2 : Nat) (cy : Int) (L : List Int) (k : Int) : Prop where
  po : PO B S D N c w0 w L k
  rs : Reads .u64 w (some ⟨bs, 0, none⟩) L ∧ bs < w.heap.size
  s0 : Sb w X0 (some ⟨N, 0, none⟩) (sc0 cy (fns 42 X0))
  s1 : Sb w X1 (some ⟨N, 0, none⟩) (sc0 cy (fns 42 X1))
  s2 : Sb w X2 (some ⟨N, 0, none⟩) (sc0 cy (fns 42 X2))
  o : S < bs ∧ D < bs ∧ N < bs ∧ bs < X0 ∧ X0 < X1 ∧ X1 < X2 ∧ B ≤ bs
theorem A3.below {B S D N : Nat} {c : Cfg} {w0 w w' : World} {bs X0 X1 X2 : Nat} {cy : Int} {L : List Int} {k : Int} (h : A3 B S D N c w0 w bs X0 X1 X2 cy L k) (hb : Below w.heap.size w w') : A3 B S D N c w0 w' bs X0 X1 X2 cy L k :=
  ⟨h.po.step hb, ⟨reads_same h.rs.1 hb.size (hb.block bs h.rs.2), Nat.lt_of_lt_of_le h.rs.2 hb.size⟩, h.s0.step hb, h.s1.step hb, h.s2.step hb, h.o⟩
def x3 (X0 X1 X2 : Nat) (i : Nat) : Nat := if i = 0 then X0 else if i = 1 then X1 else X2
theorem AW.start {B S D N : Nat} {c : Cfg} {w0 w : World} {bs bw bp bf P n1 X0 X1 X2 : Nat} {cy : Int} {L : List Int} {k : Int} {pf ff : Nat → Int} (h : A3 B S D N c w0 w bs X0 X1 X2 cy L k) (hw : W3 w bw (x3 X0 X1 X2)) (hp : IR w bp P pf) (hf : IR w bf n1 ff) (ho : X2 < bw ∧ bw < bp ∧ bp < bf) :
    AW B S D N c w0 w bs bw bp bf P n1 (x3 X0 X1 X2) (fun _ => wNew cy) L L k pf ff := by
  obtain ⟨o1, o2, o3, o4, o5, o6, o7⟩ := h.o
  obtain ⟨p1, p2, p3⟩ := ho
  refine ⟨h.po, ⟨fun i b => b = x3 X0 X1 X2 i, fun i b => b = x3 X0 X1 X2 i, fun i hi => ?_, fun i j hi hj hij b hb hb2 => ?_, fun i hi b hb => ?_⟩, by omega, h.rs, hw, hp, hf⟩
  · have : i = 0 ∨ i = 1 ∨ i = 2 := by omega
    rcases this with rfl | rfl | rfl
    · exact wkm_new h.s0 (show X0 ≠ N by omega)
    · exact wkm_new h.s1 (show X1 ≠ N by omega)
    · exact wkm_new h.s2 (show X2 ≠ N by omega)
  · have hb : b = x3 X0 X1 X2 i := hb
    have hb2 : b = x3 X0 X1 X2 j := hb2
    unfold x3 at hb hb2
    split at hb <;> split at hb2 <;> (try split at hb) <;> (try split at hb2) <;> omega
  · have hb : b = x3 X0 X1 X2 i := hb
    unfold x3 at hb
    unfold Fr
    split at hb <;> (try split at hb) <;> omega
/-! What is left. -/
/-- A store, the words as they were, the rows of nodes. -/
structure AV (B S D N : Nat) (c : Cfg) (w0 w : World) (bs bf bl n1 : Nat) (L L0 : List Int) (k : Int) (ff lf : Nat → Int) : Prop where
  po : PO B S D N c w0 w L k
  o : S < bs ∧ D < bs ∧ N < bs ∧ bs < bf ∧ bf < bl ∧ B ≤ bs
  rs : Reads .u64 w (some ⟨bs, 0, none⟩) L0 ∧ bs < w.heap.size
  rf : IR w bf n1 ff
  rl : IR w bl n1 lf
section
variable {B S D N : Nat} {c : Cfg} {w0 w w' : World} {bs bf bl n1 : Nat} {L L0 : List Int} {k : Int} {ff lf : Nat → Int}
theorem AV.below (h : AV B S D N c w0 w bs bf bl n1 L L0 k ff lf) (hb : Below w.heap.size w w') : AV B S D N c w0 w' bs bf bl n1 L L0 k ff lf :=
  ⟨h.po.step hb, h.o, ⟨reads_same h.rs.1 hb.size (hb.block bs h.rs.2), Nat.lt_of_lt_of_le h.rs.2 hb.size⟩, h.rf.below hb, h.rl.below hb⟩
theorem AV.more (h : AV B S D N c w0 w bs bf bl n1 L L0 k ff lf) {k' : Int} (hk : k ≤ k') : AV B S D N c w0 w bs bf bl n1 L L0 k' ff lf := ⟨h.po.more hk, h.o, h.rs, h.rf, h.rl⟩
theorem AV.load (h : AV B S D N c w0 w bs bf bl n1 L L0 k ff lf) (p : Int) (hk : k ≤ 900000000) :
    Calls Try.prog 23 #[ptr S, .int .i64 p] w fun a w' => a = .returned (.int .u64 (ldq L p)) ∧ AV B S D N c w0 w' bs bf bl n1 L L0 (k + 1) ff lf := by
  have ho := h.o
  refine (load_po h.po p hk).mono ?_
  rintro a w1 ⟨rfl, hp, u⟩
  exact ⟨rfl, hp, h.o, ⟨reads_same h.rs.1 u.size (u.block bs h.rs.2 (by omega)), Nat.lt_of_lt_of_le h.rs.2 u.size⟩, h.rf.same (u.block bf h.rf.lt (by omega)), h.rl.same (u.block bl h.rl.lt (by omega))⟩
theorem AV.setl (h : AV B S D N c w0 w bs bf bl n1 L L0 k ff lf) {j : Nat} (hj : j < n1) (x : Int) : AV B S D N c w0 (w.setCell ⟨bl, j, none⟩ (.int .i64 x)) bs bf bl n1 L L0 k ff (fset lf j x) := by
  have ho := h.o
  have u := upd_one' w bl j (.int .i64 x)
  exact ⟨h.po.uf (UF.of_upd u) (by omega) (by omega) (by omega) (fun x hx => by omega), h.o, ⟨reads_same h.rs.1 u.size (u.block bs h.rs.2 (by omega) (by omega)), Nat.lt_of_lt_of_le h.rs.2 u.size⟩, h.rf.same (u.block bf h.rf.lt (by omega) (by omega)), h.rl.put hj x⟩
theorem AW.av {bw bp P : Nat} {X : Nat → Nat} {M : Nat → Wn} {pf : Nat → Int} (h : AW B S D N c w0 w bs bw bp bf P n1 X M L L0 k pf ff) (hl : IR w bl n1 lf) (hb : bf < bl) : AV B S D N c w0 w bs bf bl n1 L L0 k ff lf := by
  have ho := h.ord
  exact ⟨h.po, by omega, h.rs, h.rf, hl⟩
end
/-- How often nodes were listed: those of classes below k, and those of a list. -/
def LF (c : Cfg) (cy : Int) (L0 : List Int) (k : Nat) (Q : List Int) (lf : Nat → Int) : Prop :=
  ∀ v : Nat, 1 ≤ v → v ≤ nodn c → (Gone (wOf c) L0 cy v ∧ ((wOf c).cl v < k ∨ (v : Int) ∈ Q) → lf v = 1) ∧ (¬ (Gone (wOf c) L0 cy v ∧ ((wOf c).cl v < k ∨ (v : Int) ∈ Q)) → lf v = 0)
section
variable {c : Cfg} {cy : Int} {L0 L : List Int} {Qs : Nat → List Int} {pf ff lf : Nat → Int} {k j : Nat}
theorem LF.start : LF c cy L0 0 [] (fun _ => 0) := fun v _ _ => ⟨fun e => by rcases e.2 with x | x <;> simp at x, fun _ => rfl⟩
/-- The next of a list. -/
theorem LF.next (h : LF c cy L0 k ((Qs k).take j) lf) (e : AE c cy L0 L Qs pf ff) (hk : k < 5) (hj : j < (Qs k).length) :
    ∃ v : Nat, (Qs k).getD j 0 = (v : Int) ∧ 1 ≤ v ∧ v ≤ nodn c ∧ (wOf c).cl v = k ∧ lf v = 0 ∧ LF c cy L0 k ((Qs k).take (j + 1)) (fset lf v 1) := by
  obtain ⟨_, hnd, _, hmem⟩ := e.q k hk
  have hx : (Qs k).getD j 0 = (Qs k)[j] := by rw [List.getD, List.getElem?_eq_getElem hj]; rfl
  obtain ⟨⟨h1, h2⟩, h3, h4⟩ := (hmem _).1 (List.getElem_mem hj)
  have htk : (Qs k).take (j + 1) = (Qs k).take j ++ [(Qs k)[j]] := by rw [List.take_add_one]; simp [List.getElem?_eq_getElem hj]
  obtain ⟨v, hv⟩ : ∃ v : Nat, (Qs k)[j] = (v : Int) := ⟨((Qs k)[j]).toNat, by omega⟩
  rw [hv] at h1 h2 h3 h4
  have hno : (v : Int) ∉ (Qs k).take j := fun hm => by
    obtain ⟨i, hi, hi2⟩ := List.getElem_of_mem hm
    rw [List.length_take] at hi
    rw [List.getElem_take] at hi2
    exact List.pairwise_iff_getElem.1 hnd i j (by omega) hj (by omega) (hi2.trans hv.symm)
  refine ⟨v, hx.trans hv, by omega, by omega, h4, (h v (by omega) (by omega)).2 fun e => ?_, fun u u1 u2 => ?_⟩
  · rcases e.2 with x | x
    · omega
    · exact hno x
  · rw [htk, hv]
    by_cases eu : u = v
    · subst eu
      rw [fset_same]
      exact ⟨fun _ => rfl, fun x => absurd ⟨h3, .inr (by simp)⟩ x⟩
    · rw [fset_other _ eu]
      obtain ⟨a, b⟩ := h u u1 u2
      have ne : (u : Int) ≠ (v : Int) := by omega
      exact ⟨fun x => a ⟨x.1, x.2.imp id fun y => by simpa [ne] using y⟩, fun x => b fun y => x ⟨y.1, y.2.imp id fun z => by simp [z]⟩⟩
/-- A class is done. -/
theorem LF.suc (h : LF c cy L0 k ((Qs k).take (Qs k).length) lf) (e : AE c cy L0 L Qs pf ff) (hk : k < 5) : LF c cy L0 (k + 1) [] lf := fun v v1 v2 => by
  obtain ⟨_, hnd, _, hmem⟩ := e.q k hk
  obtain ⟨a, b⟩ := h v v1 v2
  rw [List.take_length] at a b
  have key : Gone (wOf c) L0 cy v → ((v : Int) ∈ Qs k ↔ (wOf c).cl v = k) := fun g => by
    rw [hmem]; constructor
    · exact fun x => x.2.2
    · exact fun x => ⟨⟨by omega, by omega⟩, g, x⟩
  refine ⟨fun x => a ⟨x.1, ?_⟩, fun x => b fun y => x ⟨y.1, .inl ?_⟩⟩
  · rcases x.2 with z | z
    · by_cases z2 : (wOf c).cl v = k
      · exact .inr ((key x.1).2 z2)
      · exact .inl (by omega)
    · simp at z
  · rcases y.2 with z | z
    · omega
    · have := (key y.1).1 z; omega
theorem LF.of_nil {Q : List Int} (h : LF c cy L0 k [] lf) : LF c cy L0 k (Q.take 0) lf := by simpa using h
/-- All classes are done. -/
theorem LF.over (G : Gw (nodn c) L.length (wOf c)) (h : LF c cy L0 5 [] lf) {v : Nat} (v1 : 1 ≤ v) (v2 : v ≤ nodn c) : (Gone (wOf c) L0 cy v → lf v = 1) ∧ (¬ Gone (wOf c) L0 cy v → lf v = 0) := by
  obtain ⟨a, b⟩ := h v v1 v2
  exact ⟨fun g => a ⟨g, .inl (G.cl v (by omega) (by omega))⟩, fun g => b fun x => g x.1⟩
end
end Go.Proofs.Ytbpkcoemehmpbaa
