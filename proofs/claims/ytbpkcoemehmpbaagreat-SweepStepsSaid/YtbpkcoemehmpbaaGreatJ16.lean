/- Which blocks may have changed. What stays while a stack's machine goes on. The document's own search for a thing's place, walked. The first words of a map are words. A store of the call's own under a map. -/
import Derived.Test.YtbpkcoemehmpbaaGreatJ3
import Derived.Test.YtbpkcoemehmpbaaGreatLayMap
import Derived.Test.YtbpkcoemehmpbaaGreatJ15
import Derived.Test.YtbpkcoemehmpbaaGreatJ12
import Derived.Test.YtbpkcoemehmpbaaGreatLayThings
import Derived.Test.YtbpkcoemehmpbaaGreatLayListsPure
namespace Go.Proofs.YtbpkcoemehmpbaaGreat
open Go.RowKit
set_option linter.unusedVariables false
set_option linter.unusedSimpArgs false

/-- Blocks of F alone may have changed. -/
structure UF (F : Nat → Prop) (w w' : World) : Prop where
  os : w'.os = w.os
  tape : w'.tape = w.tape
  output : w'.output = w.output
  size : w.heap.size ≤ w'.heap.size
  block : ∀ k, k < w.heap.size → ¬ F k → w'.heap[k]? = w.heap[k]?
theorem UF.refl (F : Nat → Prop) (w : World) : UF F w w := ⟨rfl, rfl, rfl, Nat.le_refl _, fun _ _ _ => rfl⟩
theorem UF.trans {F G H : Nat → Prop} {a b c : World} (h : UF F a b) (k : UF G b c) (hF : ∀ x, F x → H x) (hG : ∀ x, x < a.heap.size → G x → H x) : UF H a c :=
  ⟨k.os.trans h.os, k.tape.trans h.tape, k.output.trans h.output, Nat.le_trans h.size k.size, fun i hi hn => (k.block i (Nat.lt_of_lt_of_le hi h.size) (fun g => hn (hG i hi g))).trans (h.block i hi (fun f => hn (hF i f)))⟩
theorem UF.mono {F H : Nat → Prop} {a b : World} (h : UF F a b) (hF : ∀ x, x < a.heap.size → F x → H x) : UF H a b :=
  ⟨h.os, h.tape, h.output, h.size, fun i hi hn => h.block i hi (fun f => hn (hF i hi f))⟩
theorem UF.of_below {F : Nat → Prop} {w w' : World} (h : Below w.heap.size w w') : UF F w w' := ⟨h.os, h.tape, h.output, h.size, fun k hk _ => h.block k hk⟩
theorem UF.of_upd {S D : Nat} {w w' : World} (h : Upd S D w w') : UF (fun k => k = S ∨ k = D) w w' := ⟨h.os, h.tape, h.output, h.size, fun k hk hn => h.block k hk (fun e => hn (.inl e)) (fun e => hn (.inr e))⟩
theorem UF.set (w : World) (B i : Nat) (v : Value) : UF (fun k => k = B) w (w.setCell ⟨B, i, none⟩ v) := ⟨rfl, rfl, rfl, by simp, fun k _ hn => heap_setCell_other w ⟨B, i, none⟩ k v hn⟩
theorem below_uf {B : Nat} {F : Nat → Prop} {w0 w w' : World} (h : Below B w0 w) (hB : B ≤ w0.heap.size) (u : UF F w w') (hF : ∀ k, F k → B ≤ k) : Below B w0 w' :=
  h.trans ⟨u.os, u.tape, u.output, u.size, fun k hk => u.block k (Nat.lt_of_lt_of_le hk (Nat.le_trans hB h.size)) (fun f => by have := hF k f; omega)⟩
theorem IsMap_same {w w' : World} {N : Nat} {c : Lay.Cfg} (h : Lay.IsMap w N c) (hs : w.heap.size ≤ w'.heap.size) (hb : w'.heap[N]? = w.heap[N]?) : Lay.IsMap w' N c :=
  ⟨Nat.lt_of_lt_of_le h.1 hs, fun i hi => (World.cell?_of_block (w := w) (a := ⟨N, i, none⟩) hb).trans (h.2 i hi)⟩
theorem St_same {w w' : World} {S D : Nat} {L : List Int} {c : Int} (h : St w S D L c) (h1 : w'.heap[S]? = w.heap[S]?) (h2 : w'.heap[D]? = w.heap[D]?) : St w' S D L c :=
  ⟨h.ne, h1.trans h.top, h2.trans h.row⟩

end Go.Proofs.YtbpkcoemehmpbaaGreat

namespace Go.Proofs.YtbpkcoemehmpbaaGreat
open Go.RowKit
set_option linter.unusedVariables false
set_option linter.unusedSimpArgs false
open Lay (plcc plc shOf packN nodesN OkC Cfg Norm firstV Rep lenL things)

theorem UF.of_u3 {M S D : Nat} {w w' : World} (h : U3 M S D w w') : UF (fun k => k = M ∨ k = S ∨ k = D) w w' := ⟨h.os, h.tape, h.output, h.size, fun k hk hn => h.block k hk (fun e => hn (.inl e)) (fun e => hn (.inr (.inl e))) (fun e => hn (.inr (.inr e)))⟩

theorem sstp_kd (L : List Int) (m : Sm) : (sstp L m).2.kind = m.kind := by
  unfold sstp swapS
  repeat' (first | rfl | refine ite_ind (P := fun z : List Int × Sm => z.2.kind = m.kind) ?_ ?_)
theorem getD_mem {l : List Int} {j : Int} (h : 0 ≤ j) (h2 : j < l.length) : l.getD j.toNat 0 ∈ l := by
  have : j.toNat < l.length := by omega
  rw [List.getD, List.getElem?_eq_getElem this]; exact List.getElem_mem this
end Go.Proofs.YtbpkcoemehmpbaaGreat

namespace Go.Proofs.YtbpkcoemehmpbaaGreat.Lay
open Go.RowKit
set_option linter.unusedVariables false

theorem place_spec {s : Sh} {t : Th} (hn : Norm t) {k : Nat} (hk : k < (things s).length) (he : gt (things s) k = t) : plc s t = (k : Int) := by
  rw [← he]; have := seg_all s k hk; rw [this]; omega
theorem place_none {s : Sh} {t : Th} (hn : Norm t) (h : ∀ i, i < (things s).length → gt (things s) i ≠ t) : plc s t = -1 := by
  rcases plc_spec s t hn with ⟨h1, _⟩ | ⟨i, hi, _, h2, _⟩
  · exact h1
  · exact absurd h2 (h i hi)

set_option maxHeartbeats 2000000 in
set_option maxRecDepth 100000 in
theorem place_any (s : Sh) (A : Option Addr) (cap n : Nat) (t : Th) (w : World) (hn : n = (things s).length) (h : ReadsT w A (things s)) (ht : Norm t) (hb : n ≤ 10000) :
    Calls Tryz.prog 81 #[.slice A n cap, .agg #[.int .i64 t.k, .int .i64 t.a, .int .i64 t.b]] w fun e w' => e = .returned (.int .i64 (plc s t)) ∧ Below w.heap.size w w' := by
  obtain ⟨kx, ax, bx⟩ := t
  obtain ⟨l, hl⟩ : ∃ l, l = things s := ⟨_, rfl⟩
  rw [← hl] at h hn
  have HY : Hid (∀ k, k < l.length → gt l k = ⟨kx, ax, bx⟩ → plc s ⟨kx, ax, bx⟩ = (k : Int)) := Lib.hid (by rw [hl]; exact fun k hk he => place_spec ht hk he)
  have HZ : Hid ((∀ i, i < l.length → gt l i ≠ ⟨kx, ax, bx⟩) → plc s ⟨kx, ax, bx⟩ = -1) := Lib.hid (by rw [hl]; exact place_none ht)
  have HN := Lib.hid hn
  have HR := Lib.hid (h.below (below_alloc0 (Below.refl _ _) (.cells #[.int .i64 kx, .int .i64 ax, .int .i64 bx] 114)))
  have HB0 := Lib.hid (below_alloc0 (Below.refl w.heap.size w) (.cells #[.int .i64 kx, .int .i64 ax, .int .i64 bx] 114))
  have HC : Hid ((w.alloc (.cells #[.int .i64 kx, .int .i64 ax, .int .i64 bx] 114)).cell? ⟨w.heap.size, 0, none⟩ = some (.int .i64 kx) ∧ (w.alloc (.cells #[.int .i64 kx, .int .i64 ax, .int .i64 bx] 114)).cell? ⟨w.heap.size, 1, none⟩ = some (.int .i64 ax) ∧ (w.alloc (.cells #[.int .i64 kx, .int .i64 ax, .int .i64 bx] 114)).cell? ⟨w.heap.size, 2, none⟩ = some (.int .i64 bx) ∧ w.heap.size < (w.alloc (.cells #[.int .i64 kx, .int .i64 ax, .int .i64 bx] 114)).heap.size) :=
    Lib.hid ⟨(World.cell?_alloc_at _ _ _ _ rfl).trans rfl, (World.cell?_alloc_at _ _ _ _ rfl).trans rfl, (World.cell?_alloc_at _ _ _ _ rfl).trans rfl, by simp⟩
  clear h hn ht hl
  obtain ⟨w0, hw0⟩ : ∃ w0 : World, w0 = w.alloc (.cells #[.int .i64 kx, .int .i64 ax, .int .i64 bx] 114) := ⟨_, rfl⟩
  have HW := Lib.hid hw0
  rw [← hw0] at HR HB0 HC
  clear hw0
  show Calls Tryz.prog 81 #[.slice A n cap, .agg #[.int .i64 kx, .int .i64 ax, .int .i64 bx]] w _
  go_enter Tryz.func81, Tryz.ntmps81
  go_wp2_with (fail)
  rw [← HW.out]
  go_loopw [5] (fun i wr => ∃ k : Nat, k ≤ n ∧ i = .int .i64 (k : Int) ∧ (∀ j, j < k → gt l j ≠ ⟨kx, ax, bx⟩) ∧ Below w0.heap.size w0 wr) (fun i _ => n - (intOf i).toNat)
  case atStart => exact ⟨0, Nat.zero_le _, rfl, fun j hj => by omega, Below.refl _ _⟩
  case round =>
    obtain ⟨k, hk, rfl, hg, hB⟩ := hrel
    by_cases hlt : k < n
    · obtain ⟨b, off, rfl, hbl, hcell⟩ := HR.out (by have := HN.out; omega)
      obtain ⟨t0, t1, t2⟩ := hcell k (by have := HN.out; omega)
      have t0 := (hB.cell (p := ⟨b, off + k * 3, none⟩) hbl).trans t0
      have t1 : wr.cell? ⟨b, off + k * 3 + 1, none⟩ = _ := (hB.cell (p := ⟨b, off + (k * 3 + 1), none⟩) hbl).trans t1
      have t2 : wr.cell? ⟨b, off + k * 3 + 2, none⟩ = _ := (hB.cell (p := ⟨b, off + (k * 3 + 2), none⟩) hbl).trans t2
      have s0 := (hB.cell (p := ⟨w.heap.size, 0, none⟩) HC.out.2.2.2).trans HC.out.1
      have s1 := (hB.cell (p := ⟨w.heap.size, 1, none⟩) HC.out.2.2.2).trans HC.out.2.1
      have s2 := (hB.cell (p := ⟨w.heap.size, 2, none⟩) HC.out.2.2.2).trans HC.out.2.2.1
      obtain ⟨u, hu⟩ : ∃ u, u = gt l k := ⟨_, rfl⟩
      have hg2 : u ≠ ⟨kx, ax, bx⟩ → ∀ j, j < k + 1 → gt l j ≠ ⟨kx, ax, bx⟩ := fun hne j hj => by
        by_cases e : j = k
        · subst e; rw [← hu]; exact hne
        · exact hg j (by omega)
      have hyes : u = ⟨kx, ax, bx⟩ → plc s ⟨kx, ax, bx⟩ = (k : Int) := fun e => HY.out k (by have := HN.out; omega) (by rw [← hu]; exact e)
      rw [← hu] at t0 t1 t2
      obtain ⟨x, y, z⟩ := u
      simp only at t0 t1 t2
      have HG2 := Lib.hid hg2; have HYES := Lib.hid hyes; have HBB := Lib.hid hB
      have hk0 : (0 : Int) ≤ (k : Int) := by omega
      have hk1 : (k : Int) < (n : Int) := by omega
      clear hg hB hg2 hyes hu hcell hbl
      by_cases h1 : x = kx
      · by_cases h2 : y = ax
        · by_cases h3 : z = bx
          · have HP := Lib.hid (HYES.out (by rw [h1, h2, h3]))
            have e1 : (x = kx) = True := eq_true h1
            have e2 : (y = ax) = True := eq_true h2
            have e3 : (z = bx) = True := eq_true h3
            have f1 : (x == kx) = true := beq_iff_eq.2 h1
            have f2 : (y == ax) = true := beq_iff_eq.2 h2
            have f3 : (z == bx) = true := beq_iff_eq.2 h3
            clear h1 h2 h3
            go_wp2_with (fail)
            go_quiet (fail)
            go_wp2_with (fail)
            go_ret
            exact ⟨ret_int HP.out.symm, (HB0.out.trans (HBB.out.mono HB0.out.size)).trans ((below_drewN (Below.refl _ _) _).mono (Nat.le_trans HB0.out.size HBB.out.size))⟩
          · have HP := Lib.hid (HG2.out (fun e => h3 (by injection e)))
            have e1 : (x = kx) = True := eq_true h1
            have e2 : (y = ax) = True := eq_true h2
            have f1 : (x == kx) = true := beq_iff_eq.2 h1
            have f2 : (y == ax) = true := beq_iff_eq.2 h2
            have f3 : (z == bx) = false := beq_eq_false_iff_ne.2 h3
            clear h1 h2
            go_wp2_with (fail)
            go_quiet (fail)
            go_wp2_with (fail)
            go_roundw
            case rel => exact ⟨k + 1, by omega, by go_num, HP.out, below_drewN HBB.out _⟩
            case measure => simp [intOf]; omega
        · have HP := Lib.hid (HG2.out (fun e => h2 (by injection e)))
          have e1 : (x = kx) = True := eq_true h1
          have f1 : (x == kx) = true := beq_iff_eq.2 h1
          have f2 : (y == ax) = false := beq_eq_false_iff_ne.2 h2
          clear h1
          go_wp2_with (fail)
          go_quiet (fail)
          go_wp2_with (fail)
          go_roundw
          case rel => exact ⟨k + 1, by omega, by go_num, HP.out, below_drewN HBB.out _⟩
          case measure => simp [intOf]; omega
      · have HP := Lib.hid (HG2.out (fun e => h1 (by injection e)))
        have f1 : (x == kx) = false := beq_eq_false_iff_ne.2 h1
        go_wp2_with (fail)
        go_quiet (fail)
        go_wp2_with (fail)
        go_roundw
        case rel => exact ⟨k + 1, by omega, by go_num, HP.out, below_drewN HBB.out _⟩
        case measure => simp [intOf]; omega
    · obtain hkn : k = n := by omega
      have HP := Lib.hid (HZ.out (fun i hi => hg i (by have := HN.out; omega)))
      have HBB := Lib.hid hB
      clear hg hB
      go_wp2_with (fail)
      go_ret
      exact ⟨ret_int HP.out.symm, HB0.out.trans (HBB.out.mono HB0.out.size)⟩
end Go.Proofs.YtbpkcoemehmpbaaGreat.Lay

namespace Go.Proofs.YtbpkcoemehmpbaaGreat
set_option linter.unusedVariables false
open Lay (plcc plc shOf packN nodesN OkC Cfg Norm firstV Rep lenL things stkV)

theorem mark1_norm (D i : Nat) : ∀ t ∈ Lay.mark1 D i, Norm t := by
  intro t ht
  simp only [Lay.mark1, Lay.entries, List.mem_append, List.mem_cons, List.mem_map, List.mem_range, List.not_mem_nil, or_false] at ht
  rcases ht with (rfl | rfl) | ⟨j, _, rfl⟩ <;> exact ⟨by simp, by simp, by simp, by simp⟩
theorem pack1_norm (p : Nat) : ∀ t ∈ Lay.pack1 p, Norm t := by
  intro t ht
  simp only [Lay.pack1, Lay.tasks, List.mem_append, List.mem_cons, List.mem_map, List.mem_range, List.not_mem_nil, or_false] at ht
  rcases ht with (rfl | rfl) | ⟨j, _, rfl⟩ <;> exact ⟨by simp, by simp, by simp, by simp⟩
theorem node1_norm (r : List Nat) (v : Nat) : ∀ t ∈ Lay.node1 r v, Norm t := by
  intro t ht
  simp only [Lay.node1, Lay.slots, List.mem_append, List.mem_cons, List.mem_map, List.mem_range, List.not_mem_nil, or_false] at ht
  rcases ht with (rfl | rfl | rfl | rfl) | ⟨j, _, rfl⟩ <;> exact ⟨by simp, by simp, by simp, by simp⟩
theorem marks_norm (D : Nat) : ∀ n, ∀ t ∈ Lay.marksTo D n, Norm t
  | 0, t, h => by simp [Lay.marksTo] at h
  | n + 1, t, h => by
    rcases List.mem_append.1 (show t ∈ Lay.marksTo D n ++ Lay.mark1 D n from h) with h | h
    · exact marks_norm D n t h
    · exact mark1_norm D n t h
theorem packs_norm : ∀ n, ∀ t ∈ Lay.packsTo n, Norm t
  | 0, t, h => by simp [Lay.packsTo] at h
  | n + 1, t, h => by
    rcases List.mem_append.1 (show t ∈ Lay.packsTo n ++ Lay.pack1 (n + 1) from h) with h | h
    · exact packs_norm n t h
    · exact pack1_norm _ t h
theorem nodes_norm (r : List Nat) : ∀ n, ∀ t ∈ Lay.nodesTo r n, Norm t
  | 0, t, h => by simp [Lay.nodesTo] at h
  | n + 1, t, h => by
    rcases List.mem_append.1 (show t ∈ Lay.nodesTo r n ++ Lay.node1 r (n + 1) from h) with h | h
    · exact nodes_norm r n t h
    · exact node1_norm r _ t h
theorem things_norm (s : Lay.Sh) : ∀ t ∈ things s, Norm t := by
  intro t ht
  simp only [things, Lay.singles, Lay.acks, Lay.heads, List.mem_append, List.mem_map, List.mem_range] at ht
  rcases ht with ((((⟨k, hk, rfl⟩ | ⟨k, hk, rfl⟩) | ⟨k, hk, rfl⟩) | h) | h) | h
  · exact ⟨by simp, by simp; omega, by simp, by simp⟩
  · exact ⟨by simp, by simp, by simp, by simp⟩
  · exact ⟨by simp, by simp, by simp, by simp⟩
  · exact marks_norm _ _ t h
  · exact packs_norm _ t h
  · exact nodes_norm _ _ t h
theorem stkV_bd {V : Lay.Th → Int} {t u : Lay.Th} {kd f l : Int} (h : 0 ≤ V u ∧ V u ≤ 10000) (f0 : 0 ≤ f) (f1 : f ≤ 10000) (l1 : l ≤ 10000) : 0 ≤ stkV V t kd f l u ∧ stkV V t kd f l u ≤ 10000 := by
  unfold stkV
  split
  · exact ⟨f0, f1⟩
  · split
    · omega
    · exact h
theorem firstV_bd {c : Cfg} (hc : OkC c) (u : Lay.Th) : 0 ≤ firstV c u ∧ firstV c u ≤ 10000 := by
  have hb := Lay.bds hc
  have p1 := hb.p1
  have n1 := hb.n1
  have hV : ∀ k : Nat, k ≤ 5 → 0 ≤ Lay.VV c k u ∧ Lay.VV c k u ≤ 10000 := by
    intro k
    induction k with
    | zero =>
      intro _
      show 0 ≤ Lay.baseV c u ∧ Lay.baseV c u ≤ 10000
      unfold Lay.baseV
      have := Lay.slots_bd (Lay.kindV c (nodesN c))
      split
      · omega
      · split <;> omega
    | succ k ih =>
      intro hk
      have h5 := Lay.cls_five hc k (by omega)
      refine stkV_bd (ih (by omega)) (by omega) (by omega) ?_
      have := Lay.imin_le (Lay.rF c k + Lay.rM c k) (nodesN c)
      omega
  exact stkV_bd (hV 5 (by omega)) (by omega) (by omega) (by omega)
theorem first_ww {c : Cfg} (hc : OkC c) {L : List Int} (h : Rep (shOf c) L (firstV c)) : WW L := by
  intro x hx
  obtain ⟨i, hi, rfl⟩ := List.getElem_of_mem hx
  have hl : i < (things (shOf c)).length := by rw [Lay.things_len, ← h.1]; exact hi
  obtain ⟨t, ht⟩ : ∃ t, t = Lay.gt (things (shOf c)) i := ⟨_, rfl⟩
  have hm : t ∈ things (shOf c) := by rw [ht, Lay.gt, List.getD, List.getElem?_eq_getElem hl]; exact List.getElem_mem hl
  have hn := things_norm _ t hm
  have hp := Lay.place_spec hn hl ht.symm
  have e := h.2 t hn (by omega)
  rw [hp] at e
  have e2 : L[i] = firstV c t := by rw [← e]; simp [List.getD, hi]
  rw [e2]
  have := firstV_bd hc t
  omega
end Go.Proofs.YtbpkcoemehmpbaaGreat

namespace Go.Proofs.YtbpkcoemehmpbaaGreat
open Go.RowKit
set_option linter.unusedVariables false
set_option linter.unusedSimpArgs false
open Lay (plcc plc shOf packN nodesN OkC Cfg Norm firstV Rep lenL things)

/-- A store of the call's own, under a map; k: how many accesses there were at most. -/
structure PO (B S D N : Nat) (c : Cfg) (w0 w : World) (L : List Int) (k : Int) : Prop where
  st : ∃ cc, 0 ≤ cc ∧ cc ≤ k ∧ St w S D L cc
  mp : Lay.IsMap w N c
  ok : OkC c
  ns : N ≠ S ∧ N ≠ D
  lo : B ≤ S ∧ B ≤ D ∧ B ≤ w0.heap.size
  ww : WW L
  bel : Below B w0 w
section
variable {B S D N : Nat} {c : Cfg} {w0 w w' : World} {L : List Int} {k t : Int} {X lo : Nat}
theorem PO.lt (h : PO B S D N c w0 w L k) : S < w.heap.size ∧ D < w.heap.size ∧ N < w.heap.size := by
  obtain ⟨cc, _, _, hs⟩ := h.st; exact ⟨hs.ltS, hs.row.lt, h.mp.1⟩
theorem PO.step (h : PO B S D N c w0 w L k) (hb : Below w.heap.size w w') : PO B S D N c w0 w' L k := by
  obtain ⟨cc, h0, h1, hs⟩ := h.st
  exact ⟨⟨cc, h0, h1, hs.below hb⟩, h.mp.below hb, h.ok, h.ns, h.lo, h.ww, below_step h.bel (Nat.le_trans h.lo.2.2 h.bel.size) hb⟩
theorem PO.more (h : PO B S D N c w0 w L k) {k' : Int} (hk : k ≤ k') : PO B S D N c w0 w L k' := by
  obtain ⟨cc, h0, h1, hs⟩ := h.st
  exact ⟨⟨cc, h0, by omega, hs⟩, h.mp, h.ok, h.ns, h.lo, h.ww, h.bel⟩
/-- Other blocks change. -/
theorem PO.uf {F : Nat → Prop} (h : PO B S D N c w0 w L k) (u : UF F w w') (f1 : ¬ F S) (f2 : ¬ F D) (f3 : ¬ F N) (fB : ∀ b, F b → B ≤ b) : PO B S D N c w0 w' L k := by
  obtain ⟨cc, h0, h1, hs⟩ := h.st
  have hl := h.lt
  exact ⟨⟨cc, h0, h1, St_same hs (u.block S hl.1 f1) (u.block D hl.2.1 f2)⟩, IsMap_same h.mp u.size (u.block N hl.2.2 f3), h.ok, h.ns, h.lo, h.ww, below_uf h.bel h.lo.2.2 u fB⟩

end
end Go.Proofs.YtbpkcoemehmpbaaGreat
