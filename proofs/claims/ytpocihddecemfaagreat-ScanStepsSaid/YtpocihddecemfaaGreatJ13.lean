/-  -/
import Derived.Test.YtpocihddecemfaaGreatLayThings
import Derived.Test.YtpocihddecemfaaGreatJ11
import Derived.Test.YtpocihddecemfaaGreatJ22
import Derived.Deep.AppendLies
namespace Go.Proofs.YtpocihddecemfaaGreat.Lay
open Go.RowKit
set_option linter.unusedVariables false
theorem place_spec {s : Sh} {t : Th} (hn : Norm t) {k : Nat} (hk : k < (things s).length) (he : gt (things s) k = t) : plc s t = (k : Int) := by
  rw [← he]; have := seg_all s k hk; rw [this]; omega
theorem place_none {s : Sh} {t : Th} (hn : Norm t) (h : ∀ i, i < (things s).length → gt (things s) i ≠ t) : plc s t = -1 := by
  rcases plc_spec s t hn with ⟨h1, _⟩ | ⟨i, hi, _, h2, _⟩
  · exact h1
  · exact absurd h2 (h i hi)
set_option maxHeartbeats 2000000 in
set_option maxRecDepth 100000 in
theorem place_any (s : Sh) (A : Option Addr) (cap n : Nat) (t : Th) (w : World) (hn : n = (things s).length) (h : ReadsT w A (things s)) (ht : Norm t) (hb : n ≤ 10000) :
    Calls Tryz.prog 90 #[.slice A n cap, .agg #[.int .i64 t.k, .int .i64 t.a, .int .i64 t.b]] w fun e w' => e = .returned (.int .i64 (plc s t)) ∧ Below w.heap.size w w' := by
  obtain ⟨kx, ax, bx⟩ := t
  obtain ⟨l, hl⟩ : ∃ l, l = things s := ⟨_, rfl⟩
  rw [← hl] at h hn
  have HY : Hid (∀ k, k < l.length → gt l k = ⟨kx, ax, bx⟩ → plc s ⟨kx, ax, bx⟩ = (k : Int)) := Lib.hid (by rw [hl]; exact fun k hk he => place_spec ht hk he)
  have HZ : Hid ((∀ i, i < l.length → gt l i ≠ ⟨kx, ax, bx⟩) → plc s ⟨kx, ax, bx⟩ = -1) := Lib.hid (by rw [hl]; exact place_none ht)
  have HN := Lib.hid hn
  have HR := Lib.hid (h.below (below_alloc0 (Below.refl _ _) (.cells #[.int .i64 kx, .int .i64 ax, .int .i64 bx] 135)))
  have HB0 := Lib.hid (below_alloc0 (Below.refl w.heap.size w) (.cells #[.int .i64 kx, .int .i64 ax, .int .i64 bx] 135))
  have HC : Hid ((w.alloc (.cells #[.int .i64 kx, .int .i64 ax, .int .i64 bx] 135)).cell? ⟨w.heap.size, 0, none⟩ = some (.int .i64 kx) ∧ (w.alloc (.cells #[.int .i64 kx, .int .i64 ax, .int .i64 bx] 135)).cell? ⟨w.heap.size, 1, none⟩ = some (.int .i64 ax) ∧ (w.alloc (.cells #[.int .i64 kx, .int .i64 ax, .int .i64 bx] 135)).cell? ⟨w.heap.size, 2, none⟩ = some (.int .i64 bx) ∧ w.heap.size < (w.alloc (.cells #[.int .i64 kx, .int .i64 ax, .int .i64 bx] 135)).heap.size) :=
    Lib.hid ⟨(World.cell?_alloc_at _ _ _ _ rfl).trans rfl, (World.cell?_alloc_at _ _ _ _ rfl).trans rfl, (World.cell?_alloc_at _ _ _ _ rfl).trans rfl, by simp⟩
  clear h hn ht hl
  obtain ⟨w0, hw0⟩ : ∃ w0 : World, w0 = w.alloc (.cells #[.int .i64 kx, .int .i64 ax, .int .i64 bx] 135) := ⟨_, rfl⟩
  have HW := Lib.hid hw0
  rw [← hw0] at HR HB0 HC
  clear hw0
  show Calls Tryz.prog 90 #[.slice A n cap, .agg #[.int .i64 kx, .int .i64 ax, .int .i64 bx]] w _
  go_enter Tryz.func90, Tryz.ntmps90
  go_wp2_with (fail)
  rw [← HW.out]
  go_loopw [5] (fun i wr => ∃ k : Nat, k ≤ n ∧ i = .int .i64 (k : Int) ∧ (∀ j, j < k → gt l j ≠ ⟨kx, ax, bx⟩) ∧ Below w0.heap.size w0 wr) (fun i _ => n - (intOf i).toNat)
  case atStart => exact ⟨0, Nat.zero_le _, rfl, fun j hj => by omega, Below.refl _ _⟩
  case round =>
    obtain ⟨k, hk, rfl, hg, hB⟩ := hrel
    by_cases hlt : k < n
    · obtain ⟨b, off, rfl, hbl, hcell⟩ := HR.out (by have := HN.out; omega)
      obtain ⟨t0, t1, t2⟩ := hcell k (by have := HN.out; omega)
      have t0 := (hB.cell (p := ⟨b, off + k * 3, none⟩) hbl).trans t0
      have t1 : wr.cell? ⟨b, off + k * 3 + 1, none⟩ = _ := (hB.cell (p := ⟨b, off + (k * 3 + 1), none⟩) hbl).trans t1
      have t2 : wr.cell? ⟨b, off + k * 3 + 2, none⟩ = _ := (hB.cell (p := ⟨b, off + (k * 3 + 2), none⟩) hbl).trans t2
      have s0 := (hB.cell (p := ⟨w.heap.size, 0, none⟩) HC.out.2.2.2).trans HC.out.1
      have s1 := (hB.cell (p := ⟨w.heap.size, 1, none⟩) HC.out.2.2.2).trans HC.out.2.1
      have s2 := (hB.cell (p := ⟨w.heap.size, 2, none⟩) HC.out.2.2.2).trans HC.out.2.2.1
      obtain ⟨u, hu⟩ : ∃ u, u = gt l k := ⟨_, rfl⟩
      have hg2 : u ≠ ⟨kx, ax, bx⟩ → ∀ j, j < k + 1 → gt l j ≠ ⟨kx, ax, bx⟩ := fun hne j hj => by
        by_cases e : j = k
        · subst e; rw [← hu]; exact hne
        · exact hg j (by omega)
      have hyes : u = ⟨kx, ax, bx⟩ → plc s ⟨kx, ax, bx⟩ = (k : Int) := fun e => HY.out k (by have := HN.out; omega) (by rw [← hu]; exact e)
      rw [← hu] at t0 t1 t2
      obtain ⟨x, y, z⟩ := u
      simp only at t0 t1 t2
      have HG2 := Lib.hid hg2; have HYES := Lib.hid hyes; have HBB := Lib.hid hB
      have hk0 : (0 : Int) ≤ (k : Int) := by omega
      have hk1 : (k : Int) < (n : Int) := by omega
      clear hg hB hg2 hyes hu hcell hbl
      by_cases h1 : x = kx
      · by_cases h2 : y = ax
        · by_cases h3 : z = bx
          · have HP := Lib.hid (HYES.out (by rw [h1, h2, h3]))
            have e1 : (x = kx) = True := eq_true h1
            have e2 : (y = ax) = True := eq_true h2
            have e3 : (z = bx) = True := eq_true h3
            have f1 : (x == kx) = true := beq_iff_eq.2 h1
            have f2 : (y == ax) = true := beq_iff_eq.2 h2
            have f3 : (z == bx) = true := beq_iff_eq.2 h3
            clear h1 h2 h3
            go_wp2_with (fail)
            go_quiet (fail)
            go_wp2_with (fail)
            go_ret
            exact ⟨ret_int HP.out.symm, (HB0.out.trans (HBB.out.mono HB0.out.size)).trans ((below_drewN (Below.refl _ _) _).mono (Nat.le_trans HB0.out.size HBB.out.size))⟩
          · have HP := Lib.hid (HG2.out (fun e => h3 (by injection e)))
            have e1 : (x = kx) = True := eq_true h1
            have e2 : (y = ax) = True := eq_true h2
            have f1 : (x == kx) = true := beq_iff_eq.2 h1
            have f2 : (y == ax) = true := beq_iff_eq.2 h2
            have f3 : (z == bx) = false := beq_eq_false_iff_ne.2 h3
            clear h1 h2
            go_wp2_with (fail)
            go_quiet (fail)
            go_wp2_with (fail)
            go_roundw
            case rel => exact ⟨k + 1, by omega, by go_num, HP.out, below_drewN HBB.out _⟩
            case measure => simp [intOf]; omega
        · have HP := Lib.hid (HG2.out (fun e => h2 (by injection e)))
          have e1 : (x = kx) = True := eq_true h1
          have f1 : (x == kx) = true := beq_iff_eq.2 h1
          have f2 : (y == ax) = false := beq_eq_false_iff_ne.2 h2
          clear h1
          go_wp2_with (fail)
          go_quiet (fail)
          go_wp2_with (fail)
          go_roundw
          case rel => exact ⟨k + 1, by omega, by go_num, HP.out, below_drewN HBB.out _⟩
          case measure => simp [intOf]; omega
      · have HP := Lib.hid (HG2.out (fun e => h1 (by injection e)))
        have f1 : (x == kx) = false := beq_eq_false_iff_ne.2 h1
        go_wp2_with (fail)
        go_quiet (fail)
        go_wp2_with (fail)
        go_roundw
        case rel => exact ⟨k + 1, by omega, by go_num, HP.out, below_drewN HBB.out _⟩
        case measure => simp [intOf]; omega
    · obtain hkn : k = n := by omega
      have HP := Lib.hid (HZ.out (fun i hi => hg i (by have := HN.out; omega)))
      have HBB := Lib.hid hB
      clear hg hB
      go_wp2_with (fail)
      go_ret
      exact ⟨ret_int HP.out.symm, HB0.out.trans (HBB.out.mono HB0.out.size)⟩
end Go.Proofs.YtpocihddecemfaaGreat.Lay

namespace Go.Proofs.YtpocihddecemfaaGreat
open Go.RowKit
set_option linter.unusedVariables false
open Lay (plcc plc shOf packN nodesN OkC Cfg Norm firstV Rep lenL things)
abbrev aVal (A : Option Addr) (n cap : Nat) (P : Int) : Value := .agg #[.slice A n cap, .int .i64 P]
structure IsA (w : World) (c : Cfg) (A : Option Addr) (n : Nat) : Prop where
  ln : n = (things (shOf c)).length
  rd : Lay.ReadsT w A (things (shOf c))
  le : n ≤ 10000
theorem IsA.below {w w' : World} {c : Cfg} {A : Option Addr} {n : Nat} (h : IsA w c A n) (hb : Below w.heap.size w w') : IsA w' c A n := ⟨h.ln, h.rd.below hb, h.le⟩
set_option maxHeartbeats 1000000 in
theorem rat_any (c : Cfg) (A : Option Addr) (n cap : Nat) (P k x y : Int) (w : World) (h : IsA w c A n) (hn : Norm ⟨k, x, y⟩) :
    Calls Tryz.prog 54 #[aVal A n cap P, .int .i64 k, .int .i64 x, .int .i64 y] w fun e w' => e = .returned (.int .i64 (plcc c k x y)) ∧ Below w.heap.size w w' := by
  have HA := Lib.hid (h.below (below_alloc0 (Below.refl _ _) (.cells #[.slice A n cap, .int .i64 P] 36)))
  have HN := Lib.hid hn
  have HB := below_alloc0 (Below.refl w.heap.size w) (.cells #[.slice A n cap, .int .i64 P] 36)
  clear h hn
  go_enter Tryz.func54, Tryz.ntmps54
  go_wp2_with (first
    | (go_at_call 90; (with_reducible refine (Lay.place_any (shOf c) A cap n ⟨k, x, y⟩ _ HA.out.ln HA.out.rd HN.out HA.out.le).mono ?_); rintro r w1 ⟨rfl, hb⟩; have HB := below_then HB hb)
    | fail)
  go_ret
  exact ⟨rfl, HB⟩
theorem step_append_row {k : IntKind} {wr : World} {T : TypeId} {x : Int} {ops : Array Oper} {o : Oper} {a : Act} {K : Act → World → Prop} {Q : Exit → Act → World → Prop} {E : Prop} (hg : o.guard = none) (s c : Operand) (t e : TypeId)
    (ho : o.op = .call { callee := .builtin .append, args := #[s, c], argTypes := #[t, t] }) (ht : Tryz.prog.underlying t = some (.slice e))
    (hi : (Tryz.prog.info? e).map (fun i => (i.zero, i.size, i.bytes)) = some (some (.int k 0), 1, 8))
    (B : Nat) (v : Value) (l : List Int) (hs : a.eval s = v) (hown : wr.ownsRow B e 1 v l.length (l.map (Value.int k))) (hx : a.eval c = .slice (some ⟨wr.heap.size, 0, none⟩) 1 1) (hl : l.length ≤ 100000) (hB : B ≤ wr.heap.size)
    (h : ∀ g cap w', w'.ownsRow B e 1 (.slice (some ⟨g, 0, none⟩) (l.length + 1) cap) (l.length + 1) ((l ++ [x]).map (Value.int k)) → (wr.alloc (.cells #[.int k x] T)).grownBy w' v.ownBlock → (v.ownBlock = some g ∨ wr.heap.size ≤ g) → K (a.put o.dst (.slice (some ⟨g, 0, none⟩) (l.length + 1) cap)) w') :
    if Region.wanted o (yielded ops a.tmps) = true then Oper.wp Tryz.prog o a (wr.alloc (.cells #[.int k x] T)) K Q else E := by
  obtain ⟨i0, hi0, hz0, hz1, hz2⟩ := info_parts hi
  have hn := hown.alloc (.cells #[.int k x] T)
  refine step_append_lies _ hg s c t ho B e i0 _ 1 8 ht hi0 hz0 hz1 hz2 rfl (by decide) v l.length _ hs hn ⟨wr.heap.size, 0, none⟩ 1 1 [.int k x] hx rfl ?_ ?_ (by decide) (by unfold maxLen; omega) (by omega) (by simp; omega) _ rfl ?_
  · intro j u hj
    rw [add_off, World.cell?_alloc_at _ _ _ _ rfl]
    match j, hj with
    | 0, hj => simp at hj; subst hj; rfl
  · intro u hu
    simp at hu
    rcases hu with rfl
    rfl
  · intro g cap w' h1 h2 h3 _
    refine h g cap w' (by simpa using h1) h2 ?_
    rcases h3 with h3 | h3
    · exact .inl h3
    · exact .inr (by rw [h3]; simp)
theorem adr_ne {b b' o o' : Nat} (h : b ≠ b' ∨ o ≠ o') : (⟨b, o, none⟩ : Addr) ≠ ⟨b', o', none⟩ := by
  intro e; injection e with e1 e2; omega
theorem put2_cells {w : World} {k : Nat} {a0 a1 : Value} (h0 : w.cell? ⟨k, 0, none⟩ = some a0) (h1 : w.cell? ⟨k, 1, none⟩ = some a1) (u0 u1 : Value) :
    ((w.setCell ⟨k, 0, none⟩ u0).setCell ⟨k, 1, none⟩ u1).cell? ⟨k, 0, none⟩ = some u0 ∧ ((w.setCell ⟨k, 0, none⟩ u0).setCell ⟨k, 1, none⟩ u1).cell? ⟨k, 1, none⟩ = some u1 := by
  refine ⟨?_, ?_⟩
  · rw [World.cell?_setCell_other _ _ _ _ (adr_ne (.inr (by omega)))]
    exact World.cell?_setCell_same _ _ _ h0
  · refine World.cell?_setCell_same _ _ _ (u := a1) ?_
    rw [World.cell?_setCell_other _ _ _ _ (adr_ne (.inr (by omega)))]; exact h1
structure SK (w0 w : World) (G : Nat) (A : Option Addr) (n cap : Nat) (P hd : Int) (v : Value) (zs : List Int) : Prop where
  own : w.ownsRow (G + 1) 3 1 v zs.length (zs.map (Value.int .i64))
  k : w.heap[G]? = some (.cells #[.int .i64 hd, v] 53 (0, 0))
  a : w.heap[w0.heap.size]? = some (.cells #[.slice A n cap, .int .i64 P] 36 (0, 0))
  r : w.heap[w0.heap.size + 1]? = some (.cells #[.int .i64 0, .slice none 0 0] 53 (0, 0))
  lo : w0.heap.size + 1 < G
  bel : Below w0.heap.size w0 w
section
variable {w0 w w' : World} {G n cap : Nat} {A : Option Addr} {P hd : Int} {v : Value} {zs : List Int} {c : Cfg}
theorem SK.lt (h : SK w0 w G A n cap P hd v zs) : G < w.heap.size := (Array.getElem?_eq_some_iff.1 h.k).1
theorem SK.step (h : SK w0 w G A n cap P hd v zs) (hb : Below w.heap.size w w') : SK w0 w' G A n cap P hd v zs := by
  have := h.lt; have := h.lo
  exact ⟨h.own.kept (grown_of_below (row := none) hb) (by cases v.ownBlock <;> simp), (hb.block _ (by omega)).trans h.k, (hb.block _ (by omega)).trans h.a, (hb.block _ (by omega)).trans h.r, h.lo, below_then h.bel hb⟩
theorem SK.drew (h : SK w0 w G A n cap P hd v zs) : SK w0 w.drew G A n cap P hd v zs := h.step (Below.refl _ _).drew
theorem SK.alloc (h : SK w0 w G A n cap P hd v zs) (o : Obj) : SK w0 (w.alloc o) G A n cap P hd v zs := h.step (below_alloc0 (Below.refl _ _) o)
theorem SK.isA (h : SK w0 w G A n cap P hd v zs) (ha : IsA w0 c A n) : IsA w c A n := ha.below h.bel
abbrev SKc (w : World) (w0 : World) (G : Nat) (A : Option Addr) (n cap : Nat) (P : Int) (v : Value) : Prop :=
  w.cell? ⟨G, 1, none⟩ = some v ∧ w.cell? ⟨w0.heap.size, 0, none⟩ = some (.slice A n cap) ∧ w.cell? ⟨w0.heap.size, 1, none⟩ = some (.int .i64 P) ∧ w.frozen? ⟨G, 1, none⟩ = false
theorem SK.cells (h : SK w0 w G A n cap P hd v zs) : SKc w w0 G A n cap P v :=
  ⟨by simp [World.cell?, h.k], by simp [World.cell?, h.a], by simp [World.cell?, h.a], frozen_of_row w G 1 _ _ h.k⟩
structure SKa (w0 w : World) (G : Nat) (A : Option Addr) (n cap : Nat) (P hd : Int) (v v' : Value) (zs : List Int) : Prop where
  own : w.ownsRow (G + 1) 3 1 v' zs.length (zs.map (Value.int .i64))
  k : w.heap[G]? = some (.cells #[.int .i64 hd, v] 53 (0, 0))
  a : w.heap[w0.heap.size]? = some (.cells #[.slice A n cap, .int .i64 P] 36 (0, 0))
  r : w.heap[w0.heap.size + 1]? = some (.cells #[.int .i64 0, .slice none 0 0] 53 (0, 0))
  lo : w0.heap.size + 1 < G
  bel : Below w0.heap.size w0 w
theorem SKa.cells {v' : Value} (h : SKa w0 w G A n cap P hd v v' zs) : SKc w w0 G A n cap P v :=
  ⟨by simp [World.cell?, h.k], by simp [World.cell?, h.a], by simp [World.cell?, h.a], frozen_of_row w G 1 _ _ h.k⟩
theorem SK.app {x : Int} {T : TypeId} {g cp : Nat} (h : SK w0 w G A n cap P hd v zs) (ho : w'.ownsRow (G + 1) 3 1 (.slice (some ⟨g, 0, none⟩) (zs.length + 1) cp) (zs.length + 1) ((zs ++ [x]).map (Value.int .i64)))
    (hg : (w.alloc (.cells #[.int .i64 x] T)).grownBy w' v.ownBlock) : SKa w0 w' G A n cap P hd v (.slice (some ⟨g, 0, none⟩) (zs.length + 1) cp) (zs ++ [x]) := by
  have hlt := h.lt; have hlo := h.lo
  have h1 := h.step (below_alloc0 (Below.refl _ _) (.cells #[.int .i64 x] T))
  have hb := h1.own.lt
  have key : ∀ k, k ≤ G → (w'.heap[k]? = (w.alloc (.cells #[.int .i64 x] T)).heap[k]?) := fun k hk => hg.block k (by simp; omega) (fun e => by have := hb k e.symm; omega)
  exact ⟨by rw [List.length_append]; exact ho, (key _ (Nat.le_refl _)).trans h1.k, (key _ (by omega)).trans h1.a, (key _ (by omega)).trans h1.r, hlo, h1.bel.grown hg (by simp; have := h.bel.size; omega) (fun b hb' => by have := hb b hb'; omega)⟩
theorem SKa.set {v' : Value} (h : SKa w0 w G A n cap P hd v v' zs) : SK w0 (w.setCell ⟨G, 1, none⟩ v') G A n cap P hd v' zs := by
  have hlo := h.lo
  have hb := h.own.lt
  have g1 : w.grownBy (w.setCell ⟨G, 1, none⟩ v') (some G) := ⟨rfl, rfl, rfl, by simp, fun i hi h1 => heap_setCell_other w ⟨G, 1, none⟩ i _ (fun e => h1 (by rw [e]))⟩
  refine ⟨h.own.kept g1 ?_, ?_, ?_, ?_, hlo, h.bel.setCell (by show w0.heap.size ≤ G; omega) _⟩
  · cases hv : v'.ownBlock with
    | none => exact .inl rfl
    | some b => right; intro e; have := hb b hv; injection e with e; omega
  · rw [heap_setCell_same w G 1 _ 53 _ h.k]; rfl
  · rw [heap_setCell_other _ _ _ _ (show w0.heap.size ≠ G by omega)]; exact h.a
  · rw [heap_setCell_other _ _ _ _ (show w0.heap.size + 1 ≠ G by omega)]; exact h.r
theorem SK.form (h : SK w0 w G A n cap P hd v zs) : ∃ A' cp, v = .slice A' zs.length cp := by
  rcases h.own.2 with ⟨h1, h2⟩ | ⟨g, cp, cur, h1, _⟩
  · exact ⟨none, 0, by rw [h1, h2]⟩
  · exact ⟨_, cp, h1⟩
theorem SK.fin (h : SK w0 w G A n cap P hd v zs) (u0 u1 : Value) : (∀ A' l cp, v = .slice A' l cp → Reads .i64 ((w.setCell ⟨w0.heap.size + 1, 0, none⟩ u0).setCell ⟨w0.heap.size + 1, 1, none⟩ u1) A' zs) ∧ Below w0.heap.size w0 ((w.setCell ⟨w0.heap.size + 1, 0, none⟩ u0).setCell ⟨w0.heap.size + 1, 1, none⟩ u1) := by
  have hlo := h.lo
  have hb := h.own.lt
  have g1 : w.grownBy (w.setCell ⟨w0.heap.size + 1, 0, none⟩ u0) (some (w0.heap.size + 1)) := ⟨rfl, rfl, rfl, by simp, fun i hi h1 => heap_setCell_other w ⟨w0.heap.size + 1, 0, none⟩ i _ (fun e => h1 (by rw [e]))⟩
  have g2 : (w.setCell ⟨w0.heap.size + 1, 0, none⟩ u0).grownBy ((w.setCell ⟨w0.heap.size + 1, 0, none⟩ u0).setCell ⟨w0.heap.size + 1, 1, none⟩ u1) (some (w0.heap.size + 1)) := ⟨rfl, rfl, rfl, by simp, fun i hi h1 => heap_setCell_other _ ⟨w0.heap.size + 1, 1, none⟩ i _ (fun e => h1 (by rw [e]))⟩
  have hne : v.ownBlock = none ∨ v.ownBlock ≠ some (w0.heap.size + 1) := by
    cases hv : v.ownBlock with
    | none => exact .inl rfl
    | some b => right; intro e; have := hb b hv; injection e with e; omega
  have ho := (h.own.kept g1 hne).kept g2 hne
  refine ⟨fun A' l cp e => ?_, (h.bel.setCell (by show w0.heap.size ≤ w0.heap.size + 1; omega) _).setCell (by show w0.heap.size ≤ w0.heap.size + 1; omega) _⟩
  have hO : OwnI .i64 3 (G + 1) _ _ v zs := ⟨ho, Below.refl _ _⟩
  obtain ⟨A2, cp2, hv, hr, _⟩ := hO.reads
  rw [e] at hv; injection hv with h1 h2 h3
  rw [h1]; exact hr
theorem SK.hi (h : SK w0 w G A n cap P hd v zs) (A' : Option Addr) (l cp : Nat) (e : v = .slice A' l cp) (a : Addr) (ha : A' = some a) : w0.heap.size < a.block := by
  have hlo := h.lo
  rcases h.own.2 with ⟨h1, h2⟩ | ⟨g, c', cur, h1, _⟩
  · rw [e] at h1; injection h1 with h1; rw [ha] at h1; cases h1
  · have := h.own.lt g (by rw [h1]; rfl)
    rw [e] at h1; injection h1 with h1; rw [ha] at h1
    have h3 := congrArg Addr.block (Option.some.inj h1)
    have h4 : a.block = g := h3
    omega
theorem SK.start {w1 : World} (hb : Below w0.heap.size (((w0.alloc (.cells #[.slice A n cap, .int .i64 P] 36)).alloc (.cells #[.int .i64 0, .slice none 0 0] 53))) w1)
    (hb2 : Below (w0.heap.size + 2) (((w0.alloc (.cells #[.slice A n cap, .int .i64 P] 36)).alloc (.cells #[.int .i64 0, .slice none 0 0] 53))) w1) :
    SK w0 (w1.alloc (.cells #[.int .i64 hd, .slice none 0 0] 53)) w1.heap.size A n cap P hd (.slice none 0 0) [] := by
  have hs := hb2.size
  simp at hs
  have e0 : w1.heap[w0.heap.size]? = some (.cells #[.slice A n cap, .int .i64 P] 36 (0, 0)) := by
    rw [hb2.block _ (by omega), Go.heap_alloc_old _ _ (by simp)]; exact Go.heap_alloc_new _ _
  have e1 : w1.heap[w0.heap.size + 1]? = some (.cells #[.int .i64 0, .slice none 0 0] 53 (0, 0)) := by
    rw [hb2.block _ (by omega), show w0.heap.size + 1 = (w0.alloc (.cells #[.slice A n cap, .int .i64 P] 36)).heap.size by simp]; exact Go.heap_alloc_new _ _
  have hw : Below w0.heap.size w0 w1 := (below_alloc0 (below_alloc0 (Below.refl _ _) _) _).trans hb
  exact ⟨World.ownsRow_nil _ _ _ _, Go.heap_alloc_new _ _, (Go.heap_alloc_old _ _ (by omega)).trans e0, (Go.heap_alloc_old _ _ (by omega)).trans e1, by omega, below_alloc0 hw _⟩
end
def lnkTo (c : Cfg) (j : Nat) : List Int := (List.range j).map fun (i : Nat) => plcc c 12 ((i : Int) + 1) 0
theorem lnkTo_len (c : Cfg) (j : Nat) : (lnkTo c j).length = j := by simp [lnkTo]
theorem lnkTo_succ (c : Cfg) (j : Nat) : lnkTo c (j + 1) = lnkTo c j ++ [plcc c 12 ((j : Int) + 1) 0] := by simp [lnkTo, List.range_succ]
theorem lnkTo_all (c : Cfg) : lnkTo c (packN c).toNat = lnkL c := rfl
def SomeKh (hd : Int) (zs : List Int) (w : World) (e : Ending) (w' : World) : Prop := ∃ A n cap, e = .returned (kval hd A n cap) ∧ n = zs.length ∧ Reads .i64 w' A zs ∧ Below w.heap.size w w' ∧ ∀ a, A = some a → w.heap.size < a.block
set_option maxHeartbeats 4000000 in
set_option maxRecDepth 100000 in
theorem rstack_hi {c : Cfg} (hc : OkC c) (A : Option Addr) (n cap : Nat) (k : Int) (w : World) (h : IsA w c A n) (hk : k = 4 ∨ k = 5) :
    Calls Tryz.prog 112 #[aVal A n cap (packN c), .int .i64 k] w (SomeKh (plcc c k 0 0) (lnkL c) w) := by
  have hP0 := (Lay.bds hc).p0
  have hP1 := (Lay.bds hc).p1
  obtain ⟨P, hP⟩ : ∃ P : Nat, packN c = (P : Int) := ⟨(packN c).toNat, by omega⟩
  have HPN := Lib.hid (show (packN c).toNat = P by omega)
  rw [hP] at hP0 hP1 ⊢
  obtain ⟨hd, hhd⟩ : ∃ hd, hd = plcc c k 0 0 := ⟨_, rfl⟩
  have HH := Lib.hid hhd
  rw [← hhd]
  have HB2 := below_alloc0 (below_alloc0 (Below.refl w.heap.size w) (.cells #[.slice A n cap, .int .i64 (P : Int)] 36)) (.cells #[.int .i64 0, .slice none 0 0] 53)
  have HA := Lib.hid h
  have HA2 := Lib.hid (h.below HB2)
  have HN1 : Hid (Norm ⟨k, 0, 0⟩) := Lib.hid (nrm k 0 0 (by omega) (by omega) (fun _ => rfl) (fun _ _ _ => rfl))
  have HN2 : Hid (∀ x : Int, Norm ⟨12, x, 0⟩) := Lib.hid (fun x => nrm 12 x 0 (by omega) (by omega) (fun h => by omega) (fun _ _ _ => rfl))
  have HST : Hid (∀ w1, Below (w.heap.size + 2) ((w.alloc (.cells #[.slice A n cap, .int .i64 (P : Int)] 36)).alloc (.cells #[.int .i64 0, .slice none 0 0] 53)) w1 → SK w (w1.alloc (.cells #[.int .i64 hd, .slice none 0 0] 53)) w1.heap.size A n cap P hd (.slice none 0 0) []) :=
    Lib.hid (fun w1 hb => SK.start (hb.mono (by omega)) hb)
  clear h hP hk hhd HB2
  go_enter Tryz.func112, Tryz.ntmps112
  go_wp2_with (first
    | (go_at_call 54; (with_reducible refine (rat_any c A n cap _ _ _ _ _ HA2.out HN1.out).mono ?_); rintro r w1 ⟨rfl, hb⟩; rw [← HH.out]; have HS := Lib.hid (HST.out w1 (by simpa using hb)); clear hb)
    | fail)
  go_loopw [6] (fun p wr => ∃ (j : Nat) (v : Value), j ≤ P ∧ p = .int .i64 ((j : Int) + 1) ∧ SK w wr w1.heap.size A n cap P hd v (lnkTo c j)) (fun p _ => P + 2 - (intOf p).toNat)
  case atStart => exact ⟨0, _, Nat.zero_le _, rfl, HS.out⟩
  case round =>
    clear HS
    obtain ⟨j, v, hj, rfl, hS⟩ := hrel
    obtain ⟨A', cp, hv⟩ := hS.form
    rw [lnkTo_len] at hv
    subst hv
    obtain ⟨z1, z2, z3, z4⟩ := hS.cells
    by_cases hlt : j < P
    · have d1 : decide ((j : Int) + 1 ≤ (P : Int)) = true := by simp; omega
      have HS := Lib.hid hS
      have HSD := Lib.hid hS.drew
      have HX := Lib.hid (lnkTo_succ c j)
      have hl : (lnkTo c j).length ≤ 100000 := by rw [lnkTo_len]; omega
      have HL := Lib.hid hl
      obtain ⟨x, hx⟩ : ∃ x, x = plcc c 12 ((j : Int) + 1) 0 := ⟨_, rfl⟩
      have HXX := Lib.hid hx
      clear hS hl hx
      go_wp2_with (fail)
      go_region_law (first
        | (go_simp; go_at_call 54; (with_reducible refine (rat_any c A n cap _ _ _ _ _ (HSD.out.isA HA.out) (HN2.out _)).mono ?_); rintro r w4 ⟨rfl, hb⟩; rw [← HXX.out]; have HS4 := Lib.hid (HSD.out.step hb); clear hb; obtain ⟨y1, y2, y3, y4⟩ := HS4.out.cells; obtain ⟨q1, q2, q3, q4⟩ := (HS4.out.alloc (.cells #[.int .i64 x] 3)).cells)
        | (refine step_append_row rfl _ _ 51 3 rfl Tryz.underlying51 info3 _ _ (lnkTo c j) rfl HS4.out.own rfl ?_ ?_ ?_; (exact HL.out); (have := HS4.out.lt; omega); intro g cp' w5 ho hg hgg; have HA5 := Lib.hid (HS4.out.app ho hg); have HF := Lib.hid HA5.out.set; clear ho hg hgg; obtain ⟨x1, x2, x3, x4⟩ := HA5.out.cells)
        | fail)
      all_goals go_wp2_with (fail)
      all_goals go_roundw
      all_goals try (case rel => exact ⟨j + 1, _, by omega, by go_num, by rw [HX.out, ← HXX.out]; exact HF.out⟩)
      all_goals (simp [intOf]; omega)
    · obtain rfl : j = P := by omega
      have d1 : decide ((j : Int) + 1 ≤ (j : Int)) = false := by simp; omega
      have z0 : wr.cell? ⟨w1.heap.size, 0, none⟩ = some (.int .i64 hd) := by simp [World.cell?, hS.k]
      have r0 : wr.cell? ⟨w.heap.size + 1, 0, none⟩ = some (.int .i64 0) := by simp [World.cell?, hS.r]
      have r1 : wr.cell? ⟨w.heap.size + 1, 1, none⟩ = some (.slice none 0 0) := by simp [World.cell?, hS.r]
      have f0 : wr.frozen? ⟨w.heap.size + 1, 0, none⟩ = false := frozen_of_row wr _ 0 _ _ hS.r
      have f1 : wr.frozen? ⟨w.heap.size + 1, 1, none⟩ = false := frozen_of_row wr _ 1 _ _ hS.r
      have HS := Lib.hid hS
      clear hS hlt
      go_wp2_with (fail)
      obtain ⟨e0, e1⟩ := put2_cells r0 r1 (.int .i64 hd) (.slice A' j cp)
      have hf := HS.out.fin (.int .i64 hd) (.slice A' j cp)
      have hh := HS.out.hi A' j cp rfl
      have hz : lnkTo c j = lnkL c := by rw [← lnkTo_all, HPN.out]
      have hl : j = (lnkL c).length := by rw [← hz, lnkTo_len]
      rw [hz] at hf
      exact bodyPost_ret (v := kval hd A' j cp) (by simp [results, Tryz.results112, go_sem, e0, e1]) rfl ⟨A', j, cp, rfl, hl, hf.1 _ _ _ rfl, hf.2, hh⟩
end Go.Proofs.YtpocihddecemfaaGreat
