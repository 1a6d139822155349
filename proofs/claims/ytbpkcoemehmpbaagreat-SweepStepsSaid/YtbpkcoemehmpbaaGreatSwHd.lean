/- The document's own heads of nodes by their class, walked. -/
import Derived.Test.YtbpkcoemehmpbaaGreatSwTk
namespace Go.Proofs.YtbpkcoemehmpbaaGreat
open Go.RowKit
set_option linter.unusedVariables false
set_option linter.unusedSimpArgs false
set_option maxRecDepth 100000
open Lay (plcc plc shOf packN nodesN OkC Cfg Norm firstV Rep lenL things partsC roomsI)

/-- A stack that is being made: its box, the map's, the answer's, and its links so far. -/
structure HK (w0 w : World) (G : Nat) (A : Option Addr) (n cap : Nat) (P hd : Int) (v : Value) (zs : List Int) : Prop where
  own : w.ownsRow (G + 1) 3 1 v zs.length (zs.map (Value.int .i64))
  k : w.heap[G]? = some (.cells #[.int .i64 hd, v] 48 (0, 0))
  a : w.heap[w0.heap.size]? = some (.cells #[.slice A n cap, .int .i64 P] 36 (0, 0))
  r : w.heap[w0.heap.size + 2]? = some (.cells #[.int .i64 0, .slice none 0 0] 48 (0, 0))
  lo : w0.heap.size + 2 < G
  bel : Below w0.heap.size w0 w
section
variable {w0 w w' : World} {G n cap : Nat} {A : Option Addr} {P hd : Int} {v : Value} {zs : List Int} {c : Cfg}
theorem HK.lt (h : HK w0 w G A n cap P hd v zs) : G < w.heap.size := (Array.getElem?_eq_some_iff.1 h.k).1
theorem HK.step (h : HK w0 w G A n cap P hd v zs) (hb : Below w.heap.size w w') : HK w0 w' G A n cap P hd v zs := by
  have := h.lt; have := h.lo
  exact ⟨h.own.kept (grown_of_below (row := none) hb) (by cases v.ownBlock <;> simp), (hb.block _ (by omega)).trans h.k, (hb.block _ (by omega)).trans h.a, (hb.block _ (by omega)).trans h.r, h.lo, below_then h.bel hb⟩
theorem HK.drew (h : HK w0 w G A n cap P hd v zs) : HK w0 w.drew G A n cap P hd v zs := h.step (Below.refl _ _).drew
theorem HK.alloc (h : HK w0 w G A n cap P hd v zs) (o : Obj) : HK w0 (w.alloc o) G A n cap P hd v zs := h.step (below_alloc0 (Below.refl _ _) o)
theorem HK.isA (h : HK w0 w G A n cap P hd v zs) (ha : IsA w0 c A n) : IsA w c A n := ha.below h.bel
abbrev HKc (w : World) (w0 : World) (G : Nat) (A : Option Addr) (n cap : Nat) (P : Int) (v : Value) : Prop :=
  w.cell? ⟨G, 1, none⟩ = some v ∧ w.cell? ⟨w0.heap.size, 0, none⟩ = some (.slice A n cap) ∧ w.cell? ⟨w0.heap.size, 1, none⟩ = some (.int .i64 P) ∧ w.frozen? ⟨G, 1, none⟩ = false
theorem HK.cells (h : HK w0 w G A n cap P hd v zs) : HKc w w0 G A n cap P v :=
  ⟨by simp [World.cell?, h.k], by simp [World.cell?, h.a], by simp [World.cell?, h.a], frozen_of_row w G 1 _ _ h.k⟩
/-- Behind an append, its row is new: the box is still as it was. -/
structure HKa (w0 w : World) (G : Nat) (A : Option Addr) (n cap : Nat) (P hd : Int) (v v' : Value) (zs : List Int) : Prop where
  own : w.ownsRow (G + 1) 3 1 v' zs.length (zs.map (Value.int .i64))
  k : w.heap[G]? = some (.cells #[.int .i64 hd, v] 48 (0, 0))
  a : w.heap[w0.heap.size]? = some (.cells #[.slice A n cap, .int .i64 P] 36 (0, 0))
  r : w.heap[w0.heap.size + 2]? = some (.cells #[.int .i64 0, .slice none 0 0] 48 (0, 0))
  lo : w0.heap.size + 2 < G
  bel : Below w0.heap.size w0 w
theorem HKa.cells {v' : Value} (h : HKa w0 w G A n cap P hd v v' zs) : HKc w w0 G A n cap P v :=
  ⟨by simp [World.cell?, h.k], by simp [World.cell?, h.a], by simp [World.cell?, h.a], frozen_of_row w G 1 _ _ h.k⟩
theorem HK.app {x : Int} {T : TypeId} {g cp : Nat} (h : HK w0 w G A n cap P hd v zs) (ho : w'.ownsRow (G + 1) 3 1 (.slice (some ⟨g, 0, none⟩) (zs.length + 1) cp) (zs.length + 1) ((zs ++ [x]).map (Value.int .i64)))
    (hg : (w.alloc (.cells #[.int .i64 x] T)).grownBy w' v.ownBlock) : HKa w0 w' G A n cap P hd v (.slice (some ⟨g, 0, none⟩) (zs.length + 1) cp) (zs ++ [x]) := by
  have hlt := h.lt; have hlo := h.lo
  have h1 := h.step (below_alloc0 (Below.refl _ _) (.cells #[.int .i64 x] T))
  have hb := h1.own.lt
  have key : ∀ k, k ≤ G → (w'.heap[k]? = (w.alloc (.cells #[.int .i64 x] T)).heap[k]?) := fun k hk => hg.block k (by simp; omega) (fun e => by have := hb k e.symm; omega)
  exact ⟨by rw [List.length_append]; exact ho, (key _ (Nat.le_refl _)).trans h1.k, (key _ (by omega)).trans h1.a, (key _ (by omega)).trans h1.r, hlo, h1.bel.grown hg (by simp; have := h.bel.size; omega) (fun b hb' => by have := hb b hb'; omega)⟩
theorem HKa.set {v' : Value} (h : HKa w0 w G A n cap P hd v v' zs) : HK w0 (w.setCell ⟨G, 1, none⟩ v') G A n cap P hd v' zs := by
  have hlo := h.lo
  have hb := h.own.lt
  have g1 : w.grownBy (w.setCell ⟨G, 1, none⟩ v') (some G) := ⟨rfl, rfl, rfl, by simp, fun i hi h1 => heap_setCell_other w ⟨G, 1, none⟩ i _ (fun e => h1 (by rw [e]))⟩
  refine ⟨h.own.kept g1 ?_, ?_, ?_, ?_, hlo, h.bel.setCell (by show w0.heap.size ≤ G; omega) _⟩
  · cases hv : v'.ownBlock with
    | none => exact .inl rfl
    | some b => right; intro e; have := hb b hv; injection e with e; omega
  · rw [heap_setCell_same w G 1 _ 48 _ h.k]; rfl
  · rw [heap_setCell_other _ _ _ _ (show w0.heap.size ≠ G by omega)]; exact h.a
  · rw [heap_setCell_other _ _ _ _ (show w0.heap.size + 2 ≠ G by omega)]; exact h.r
theorem HK.form (h : HK w0 w G A n cap P hd v zs) : ∃ A' cp, v = .slice A' zs.length cp := by
  rcases h.own.2 with ⟨h1, h2⟩ | ⟨g, cp, cur, h1, _⟩
  · exact ⟨none, 0, by rw [h1, h2]⟩
  · exact ⟨_, cp, h1⟩
theorem HK.fin (h : HK w0 w G A n cap P hd v zs) (u0 u1 : Value) : (∀ A' l cp, v = .slice A' l cp → Reads .i64 ((w.setCell ⟨w0.heap.size + 2, 0, none⟩ u0).setCell ⟨w0.heap.size + 2, 1, none⟩ u1) A' zs) ∧ Below w0.heap.size w0 ((w.setCell ⟨w0.heap.size + 2, 0, none⟩ u0).setCell ⟨w0.heap.size + 2, 1, none⟩ u1) := by
  have hlo := h.lo
  have hb := h.own.lt
  have g1 : w.grownBy (w.setCell ⟨w0.heap.size + 2, 0, none⟩ u0) (some (w0.heap.size + 2)) := ⟨rfl, rfl, rfl, by simp, fun i hi h1 => heap_setCell_other w ⟨w0.heap.size + 2, 0, none⟩ i _ (fun e => h1 (by rw [e]))⟩
  have g2 : (w.setCell ⟨w0.heap.size + 2, 0, none⟩ u0).grownBy ((w.setCell ⟨w0.heap.size + 2, 0, none⟩ u0).setCell ⟨w0.heap.size + 2, 1, none⟩ u1) (some (w0.heap.size + 2)) := ⟨rfl, rfl, rfl, by simp, fun i hi h1 => heap_setCell_other _ ⟨w0.heap.size + 2, 1, none⟩ i _ (fun e => h1 (by rw [e]))⟩
  have hne : v.ownBlock = none ∨ v.ownBlock ≠ some (w0.heap.size + 2) := by
    cases hv : v.ownBlock with
    | none => exact .inl rfl
    | some b => right; intro e; have := hb b hv; injection e with e; omega
  have ho := (h.own.kept g1 hne).kept g2 hne
  refine ⟨fun A' l cp e => ?_, (h.bel.setCell (by show w0.heap.size ≤ w0.heap.size + 2; omega) _).setCell (by show w0.heap.size ≤ w0.heap.size + 2; omega) _⟩
  have hO : OwnI .i64 3 (G + 1) _ _ v zs := ⟨ho, Below.refl _ _⟩
  obtain ⟨A2, cp2, hv, hr, _⟩ := hO.reads
  rw [e] at hv; injection hv with h1 h2 h3
  rw [h1]; exact hr
theorem HK.hi (h : HK w0 w G A n cap P hd v zs) (A' : Option Addr) (l cp : Nat) (e : v = .slice A' l cp) (a : Addr) (ha : A' = some a) : w0.heap.size < a.block := by
  have hlo := h.lo
  rcases h.own.2 with ⟨h1, h2⟩ | ⟨g, c', cur, h1, _⟩
  · rw [e] at h1; injection h1 with h1; rw [ha] at h1; cases h1
  · have := h.own.lt g (by rw [h1]; rfl)
    rw [e] at h1; injection h1 with h1; rw [ha] at h1
    have h3 := congrArg Addr.block (Option.some.inj h1)
    have h4 : a.block = g := h3
    omega
theorem HK.start {w1 : World} (hb2 : Below (w0.heap.size + 3) (((w0.alloc (.cells #[.slice A n cap, .int .i64 P] 36)).alloc (.cells #[.int .i64 c.a, .int .i64 c.b, .int .i64 c.c, .int .i64 c.d, .int .i64 c.e, .int .i64 c.mr, .int .i64 c.mu, .int .i64 c.dq, .int .i64 c.ch, .int .i64 c.bf, .int .i64 c.rt, .int .i64 c.sw] 38)).alloc (.cells #[.int .i64 0, .slice none 0 0] 48)) w1) :
    HK w0 (w1.alloc (.cells #[.int .i64 hd, .slice none 0 0] 48)) w1.heap.size A n cap P hd (.slice none 0 0) [] ∧ CfgC (w0.heap.size + 1) c (w1.alloc (.cells #[.int .i64 hd, .slice none 0 0] 48)) := by
  obtain ⟨W1, h1⟩ : ∃ W1, W1 = w0.alloc (.cells #[.slice A n cap, .int .i64 P] 36) := ⟨_, rfl⟩
  have b1 : Below w0.heap.size w0 W1 := by rw [h1]; exact below_alloc0 (Below.refl _ _) _
  have g1 : W1.heap[w0.heap.size]? = some (.cells #[.slice A n cap, .int .i64 P] 36 (0, 0)) := by rw [h1]; exact Go.heap_alloc_new _ _
  have s1 : W1.heap.size = w0.heap.size + 1 := by rw [h1]; simp
  rw [← h1] at hb2
  obtain ⟨W2, h2⟩ : ∃ W2, W2 = W1.alloc (.cells #[.int .i64 c.a, .int .i64 c.b, .int .i64 c.c, .int .i64 c.d, .int .i64 c.e, .int .i64 c.mr, .int .i64 c.mu, .int .i64 c.dq, .int .i64 c.ch, .int .i64 c.bf, .int .i64 c.rt, .int .i64 c.sw] 38) := ⟨_, rfl⟩
  have b2 : Below W1.heap.size W1 W2 := by rw [h2]; exact below_alloc0 (Below.refl _ _) _
  have g2 : W2.heap[w0.heap.size + 1]? = some (.cells #[.int .i64 c.a, .int .i64 c.b, .int .i64 c.c, .int .i64 c.d, .int .i64 c.e, .int .i64 c.mr, .int .i64 c.mu, .int .i64 c.dq, .int .i64 c.ch, .int .i64 c.bf, .int .i64 c.rt, .int .i64 c.sw] 38 (0, 0)) := by rw [← s1, h2]; exact Go.heap_alloc_new _ _
  have s2 : W2.heap.size = w0.heap.size + 2 := by rw [h2]; simp [s1]
  rw [← h2] at hb2
  obtain ⟨W3, h3⟩ : ∃ W3, W3 = W2.alloc (.cells #[.int .i64 0, .slice none 0 0] 48) := ⟨_, rfl⟩
  have b3 : Below W2.heap.size W2 W3 := by rw [h3]; exact below_alloc0 (Below.refl _ _) _
  have g3 : W3.heap[w0.heap.size + 2]? = some (.cells #[.int .i64 0, .slice none 0 0] 48 (0, 0)) := by rw [← s2, h3]; exact Go.heap_alloc_new _ _
  have s3 : W3.heap.size = w0.heap.size + 3 := by rw [h3]; simp [s2]
  rw [← h3] at hb2
  have hs := hb2.size
  have e0 : w1.heap[w0.heap.size]? = some (.cells #[.slice A n cap, .int .i64 P] 36 (0, 0)) := by rw [hb2.block _ (by omega), b3.block _ (by omega), b2.block _ (by omega)]; exact g1
  have ec : w1.heap[w0.heap.size + 1]? = some (.cells #[.int .i64 c.a, .int .i64 c.b, .int .i64 c.c, .int .i64 c.d, .int .i64 c.e, .int .i64 c.mr, .int .i64 c.mu, .int .i64 c.dq, .int .i64 c.ch, .int .i64 c.bf, .int .i64 c.rt, .int .i64 c.sw] 38 (0, 0)) := by rw [hb2.block _ (by omega), b3.block _ (by omega)]; exact g2
  have e1 : w1.heap[w0.heap.size + 2]? = some (.cells #[.int .i64 0, .slice none 0 0] 48 (0, 0)) := by rw [hb2.block _ (by omega)]; exact g3
  have hw : Below w0.heap.size w0 w1 := below_step (below_step (below_step b1 (by omega) b2) (by omega) b3) (by omega) (by rw [s3]; exact hb2)
  refine ⟨⟨World.ownsRow_nil _ _ _ _, Go.heap_alloc_new _ _, (Go.heap_alloc_old _ _ (by omega)).trans e0, (Go.heap_alloc_old _ _ (by omega)).trans e1, by omega, below_alloc0 hw _⟩, ?_⟩
  refine ⟨?_, ?_, ?_, ?_, ?_, ?_, ?_, ?_, ?_, ?_, ?_, ?_⟩ <;> exact cell_of_row _ _ _ _ _ _ ((Go.heap_alloc_old _ _ (by omega)).trans ec)
end

/-- A row of nodes' links, the first j. -/
def hdTo (c : Cfg) (j : Nat) : List Int := (List.range j).map fun (i : Nat) => plcc c 17 ((i : Int) + 1) 0
theorem hdTo_len (c : Cfg) (j : Nat) : (hdTo c j).length = j := by simp [hdTo]
theorem hdTo_succ (c : Cfg) (j : Nat) : hdTo c (j + 1) = hdTo c j ++ [plcc c 17 ((j : Int) + 1) 0] := by simp [hdTo, List.range_succ]
theorem hdTo_all (c : Cfg) : hdTo c (nodesN c).toNat = nxtL c := rfl
set_option maxHeartbeats 4000000 in
set_option maxRecDepth 100000 in
theorem rheads_hi {c : Cfg} (hc : OkC c) (A : Option Addr) (n cap : Nat) (P k : Int) (w : World) (h : IsA w c A n) :
    Calls Tryz.prog 47 #[aVal A n cap P, Lay.cfgV c, .int .i64 k] w (SomeKh (plcc c 7 k 0) (nxtL c) w) := by
  have hn0 := (Lay.bds hc).n0
  have hn1 := (Lay.bds hc).n1
  obtain ⟨nr, hnr⟩ : ∃ nr, nr = (roomsI c).length := ⟨_, rfl⟩
  have hnn : (nr : Int) = nodesN c := by rw [hnr, Lay.rooms_len]; exact Lay.ks_len hc
  have HNR := Lib.hid hnr
  have HPN := Lib.hid (show (nodesN c).toNat = nr by omega)
  have hn6 : nr ≤ 60 := by omega
  clear hn0 hn1 hnr hnn
  obtain ⟨hd, hhd⟩ : ∃ hd, hd = plcc c 7 k 0 := ⟨_, rfl⟩
  have HH := Lib.hid hhd
  rw [← hhd]
  have HB2 := below_alloc0 (below_alloc0 (below_alloc0 (Below.refl w.heap.size w) (.cells #[.slice A n cap, .int .i64 P] 36)) (.cells #[.int .i64 c.a, .int .i64 c.b, .int .i64 c.c, .int .i64 c.d, .int .i64 c.e, .int .i64 c.mr, .int .i64 c.mu, .int .i64 c.dq, .int .i64 c.ch, .int .i64 c.bf, .int .i64 c.rt, .int .i64 c.sw] 38)) (.cells #[.int .i64 0, .slice none 0 0] 48)
  have HA := Lib.hid h
  have HA2 := Lib.hid (h.below HB2)
  have HN1 : Hid (Norm ⟨7, k, 0⟩) := Lib.hid (nrm 7 k 0 (by omega) (by omega) (fun h => by omega) (fun _ _ _ => rfl))
  have HN2 : Hid (∀ x : Int, Norm ⟨17, x, 0⟩) := Lib.hid (fun x => nrm 17 x 0 (by omega) (by omega) (fun h => by omega) (fun _ _ _ => rfl))
  have HST : Hid (∀ w1, Below (w.heap.size + 3) (((w.alloc (.cells #[.slice A n cap, .int .i64 P] 36)).alloc (.cells #[.int .i64 c.a, .int .i64 c.b, .int .i64 c.c, .int .i64 c.d, .int .i64 c.e, .int .i64 c.mr, .int .i64 c.mu, .int .i64 c.dq, .int .i64 c.ch, .int .i64 c.bf, .int .i64 c.rt, .int .i64 c.sw] 38)).alloc (.cells #[.int .i64 0, .slice none 0 0] 48)) w1 → HK w (w1.alloc (.cells #[.int .i64 hd, .slice none 0 0] 48)) w1.heap.size A n cap P hd (.slice none 0 0) [] ∧ CfgC (w.heap.size + 1) c (w1.alloc (.cells #[.int .i64 hd, .slice none 0 0] 48))) := Lib.hid (fun w1 hb => HK.start hb)
  clear h hhd HB2
  go_enter Tryz.func47, Tryz.ntmps47
  go_wp2_with (first
    | (go_at_call 44; (with_reducible refine (rat_any c A n cap _ _ _ _ _ HA2.out HN1.out).mono ?_); rintro r w1 ⟨rfl, hb⟩; rw [← HH.out]; obtain ⟨hk1, q0, q1, q2, q3, q4, q5, q6, q7, q8, q9, q10, q11⟩ := HST.out w1 (by simpa using hb); have HSP := Lib.hid hk1; clear hb hk1)
    | (go_at_call 70; (with_reducible refine (Lay.rooms_any c _).mono ?_); rintro r w2 ⟨v, rfl, ho⟩; obtain ⟨RA, rc, rfl, _⟩ := ho.reads; rw [← HNR.out]; have HS := Lib.hid (HSP.out.step ho.2); clear ho q0 q1 q2 q3 q4 q5 q6 q7 q8 q9 q10 q11)
    | fail)
  go_loopw [9] (fun p wr => ∃ (j : Nat) (v : Value), j ≤ nr ∧ p = .int .i64 ((j : Int) + 1) ∧ HK w wr w1.heap.size A n cap P hd v (hdTo c j)) (fun p _ => nr + 2 - (intOf p).toNat)
  case atStart => exact ⟨0, _, Nat.zero_le _, rfl, HS.out⟩
  case round =>
    clear HS
    obtain ⟨j, v, hj, rfl, hS⟩ := hrel
    obtain ⟨A', cp, hv⟩ := hS.form
    rw [hdTo_len] at hv
    subst hv
    obtain ⟨z1, z2, z3, z4⟩ := hS.cells
    by_cases hlt : j < nr
    · have d1 : decide ((j : Int) + 1 ≤ (nr : Int)) = true := by simp; omega
      have HS := Lib.hid hS
      have HSD := Lib.hid hS.drew
      have HX := Lib.hid (hdTo_succ c j)
      have hl : (hdTo c j).length ≤ 100000 := by rw [hdTo_len]; omega
      have HL := Lib.hid hl
      obtain ⟨x, hx⟩ : ∃ x, x = plcc c 17 ((j : Int) + 1) 0 := ⟨_, rfl⟩
      have HXX := Lib.hid hx
      clear hS hl hx
      go_wp2_with (fail)
      go_region_law (first
        | (go_simp; go_at_call 44; (with_reducible refine (rat_any c A n cap _ _ _ _ _ (HSD.out.isA HA.out) (HN2.out _)).mono ?_); rintro r w4 ⟨rfl, hb⟩; rw [← HXX.out]; have HS4 := Lib.hid (HSD.out.step hb); clear hb; obtain ⟨y1, y2, y3, y4⟩ := HS4.out.cells; obtain ⟨q1, q2, q3, q4⟩ := (HS4.out.alloc (.cells #[.int .i64 x] 3)).cells)
        | (refine step_append_row rfl _ _ 46 3 rfl Tryz.underlying46 info3 _ _ (hdTo c j) rfl HS4.out.own rfl ?_ ?_ ?_; (exact HL.out); (have := HS4.out.lt; omega); intro g cp' w5 ho hg hgg; have HA5 := Lib.hid (HS4.out.app ho hg); have HF := Lib.hid HA5.out.set; clear ho hg hgg; obtain ⟨x1, x2, x3, x4⟩ := HA5.out.cells)
        | fail)
      all_goals go_wp2_with (fail)
      all_goals go_roundw
      all_goals try (case rel => exact ⟨j + 1, _, by omega, by go_num, by rw [HX.out, ← HXX.out]; exact HF.out⟩)
      all_goals (simp [intOf]; omega)
    · obtain rfl : j = nr := by omega
      have d1 : decide ((j : Int) + 1 ≤ (j : Int)) = false := by simp; omega
      have z0 : wr.cell? ⟨w1.heap.size, 0, none⟩ = some (.int .i64 hd) := by simp [World.cell?, hS.k]
      have r0 : wr.cell? ⟨w.heap.size + 2, 0, none⟩ = some (.int .i64 0) := by simp [World.cell?, hS.r]
      have r1 : wr.cell? ⟨w.heap.size + 2, 1, none⟩ = some (.slice none 0 0) := by simp [World.cell?, hS.r]
      have f0 : wr.frozen? ⟨w.heap.size + 2, 0, none⟩ = false := frozen_of_row wr _ 0 _ _ hS.r
      have f1 : wr.frozen? ⟨w.heap.size + 2, 1, none⟩ = false := frozen_of_row wr _ 1 _ _ hS.r
      have HS := Lib.hid hS
      clear hS hlt
      go_wp2_with (fail)
      obtain ⟨e0, e1⟩ := put2_cells r0 r1 (.int .i64 hd) (.slice A' j cp)
      have hf := HS.out.fin (.int .i64 hd) (.slice A' j cp)
      have hh := HS.out.hi A' j cp rfl
      have hz : hdTo c j = nxtL c := by rw [← hdTo_all, HPN.out]
      have hl : j = (nxtL c).length := by rw [← hz, hdTo_len]
      rw [hz] at hf
      exact bodyPost_ret (v := kval hd A' j cp) (by simp [results, Tryz.results47, go_sem, e0, e1]) rfl ⟨A', j, cp, rfl, hl, hf.1 _ _ _ rfl, hf.2, hh⟩
end Go.Proofs.YtbpkcoemehmpbaaGreat
