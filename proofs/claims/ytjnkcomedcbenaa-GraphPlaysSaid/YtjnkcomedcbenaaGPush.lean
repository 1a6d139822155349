/- The document's graph: a mutator with one root more; walked. -/
import Derived.Test.YtjnkcomedcbenaaGOps
namespace Go.Proofs.Ytjnkcomedcbenaa
open Go.RowKit
set_option linter.unusedVariables false

/-- A graph that is answered, by value. -/
def SomeG (P : Nat → Prop) (w : World) (g : Gr) (e : Ending) (w' : World) : Prop :=
  ∃ A rn c B nn d mo, e = .returned (gV A rn c B nn d mo) ∧ GM P w' A rn c B nn d mo g ∧ Below w.heap.size w w'

/-- What push's last step reads: the graph that came in, in its box; the list that was made; the answer's cells. -/
structure Kq (P : Nat → Prop) (w w' : World) (A : Option Addr) (rn c : Nat) (B : Option Addr) (nn d : Nat) (mo : Int) (g : Gr) (v : Value) (zs : List Int) : Prop where
  bel : Below w.heap.size w w'
  b0 : w'.cell? ⟨w.heap.size, 0, none⟩ = some (.slice A rn c)
  b1 : w'.cell? ⟨w.heap.size, 1, none⟩ = some (.slice B nn d)
  b2 : w'.cell? ⟨w.heap.size, 2, none⟩ = some (.int .i64 mo)
  r0 : w'.cell? ⟨w.heap.size + 1, 0, none⟩ = some (.slice none 0 0)
  r1 : w'.cell? ⟨w.heap.size + 1, 1, none⟩ = some (.slice none 0 0)
  r2 : w'.cell? ⟨w.heap.size + 1, 2, none⟩ = some (.int .i64 0)
  f : ∀ j, w'.frozen? ⟨w.heap.size + 1, j, none⟩ = false
  f0 : ∀ j, w'.frozen? ⟨w.heap.size, j, none⟩ = false
  gm : GM P w' A rn c B nn d mo g
  l : RowV P w' v zs
theorem Kq.step {P : Nat → Prop} {w w' w2 : World} {A : Option Addr} {rn c : Nat} {B : Option Addr} {nn d : Nat} {mo : Int} {g : Gr} {v : Value} {zs : List Int} (h : Kq P w w' A rn c B nn d mo g v zs) (hb : Below w'.heap.size w' w2) : Kq P w w2 A rn c B nn d mo g v zs := by
  have h1 := World.block_lt_of_cell? w' _ h.b0
  have h2 := World.block_lt_of_cell? w' _ h.r0
  exact ⟨below_then h.bel hb, (hb.cell (p := ⟨w.heap.size, 0, none⟩) h1).trans h.b0, (hb.cell (p := ⟨w.heap.size, 1, none⟩) h1).trans h.b1, (hb.cell (p := ⟨w.heap.size, 2, none⟩) h1).trans h.b2,
    (hb.cell (p := ⟨w.heap.size + 1, 0, none⟩) h2).trans h.r0, (hb.cell (p := ⟨w.heap.size + 1, 1, none⟩) h2).trans h.r1, (hb.cell (p := ⟨w.heap.size + 1, 2, none⟩) h2).trans h.r2, fun j => (hb.frozen (p := ⟨w.heap.size + 1, j, none⟩) h2).trans (h.f j), fun j => (hb.frozen (p := ⟨w.heap.size, j, none⟩) h1).trans (h.f0 j), h.gm.below hb, h.l.kept (Kept.below hb)⟩
theorem Kq.drew {P : Nat → Prop} {w w' : World} {A : Option Addr} {rn c : Nat} {B : Option Addr} {nn d : Nat} {mo : Int} {g : Gr} {v : Value} {zs : List Int} (h : Kq P w w' A rn c B nn d mo g v zs) : Kq P w w'.drew A rn c B nn d mo g v zs := h.step (Below.refl _ _).drew
theorem Kq.swap {P : Nat → Prop} {w w' : World} {A : Option Addr} {rn c : Nat} {B : Option Addr} {nn d : Nat} {mo : Int} {g : Gr} {v v' : Value} {zs zs' : List Int} (h : Kq P w w' A rn c B nn d mo g v zs) (hv : RowV P w' v' zs') : Kq P w w' A rn c B nn d mo g v' zs' :=
  ⟨h.bel, h.b0, h.b1, h.b2, h.r0, h.r1, h.r2, h.f, h.f0, h.gm, hv⟩
/-- What is loaded, and nothing on the answer's cells. -/
structure Kx (w w' : World) (A : Option Addr) (rn c : Nat) (B : Option Addr) (nn d : Nat) (mo : Int) : Prop where
  bel : Below w.heap.size w w'
  b0 : w'.cell? ⟨w.heap.size, 0, none⟩ = some (.slice A rn c)
  b1 : w'.cell? ⟨w.heap.size, 1, none⟩ = some (.slice B nn d)
  b2 : w'.cell? ⟨w.heap.size, 2, none⟩ = some (.int .i64 mo)
section
variable {P : Nat → Prop} {w w' : World} {A : Option Addr} {rn c : Nat} {B : Option Addr} {nn d : Nat} {mo : Int} {g : Gr} {v : Value} {zs : List Int}
theorem Kq.kx (h : Kq P w w' A rn c B nn d mo g v zs) : Kx w w' A rn c B nn d mo := ⟨h.bel, h.b0, h.b1, h.b2⟩
theorem Kx.drew (h : Kx w w' A rn c B nn d mo) : Kx w w'.drew A rn c B nn d mo := ⟨h.bel.drew, h.b0, h.b1, h.b2⟩
theorem Kx.set (h : Kx w w' A rn c B nn d mo) (k : Nat) (u : Value) : Kx w (w'.setCell ⟨w.heap.size + 1, k, none⟩ u) A rn c B nn d mo :=
  ⟨h.bel.setCell (by simp) _, (World.cell?_setCell_other _ _ _ _ (by intro e; injection e with e1; omega)).trans h.b0, (World.cell?_setCell_other _ _ _ _ (by intro e; injection e with e1; omega)).trans h.b1, (World.cell?_setCell_other _ _ _ _ (by intro e; injection e with e1; omega)).trans h.b2⟩
theorem Kx.all (h : Kx w w' A rn c B nn d mo) :
    (w'.cell? ⟨w.heap.size, 0, none⟩ = some (.slice A rn c) ∧ w'.cell? ⟨w.heap.size, 1, none⟩ = some (.slice B nn d) ∧ w'.cell? ⟨w.heap.size, 2, none⟩ = some (.int .i64 mo)) ∧ Kx w w' A rn c B nn d mo := ⟨⟨h.b0, h.b1, h.b2⟩, h⟩
end
/-- The world in which a graph lies boxed, and an answer's cells are made. -/
abbrev two (w : World) (A : Option Addr) (rn c : Nat) (B : Option Addr) (nn d : Nat) (mo : Int) : World :=
  (w.alloc (.cells #[.slice A rn c, .slice B nn d, .int .i64 mo] 28)).alloc (.cells #[.slice none 0 0, .slice none 0 0, .int .i64 0] 28)
/-- The blocks that are neither the box's nor the answer's own. -/
def Not1 (w : World) (P : Nat → Prop) (b : Nat) : Prop := P b ∧ b ≠ w.heap.size ∧ b ≠ w.heap.size + 1
section
variable {P : Nat → Prop} {w w' : World} {A : Option Addr} {rn c : Nat} {B : Option Addr} {nn d : Nat} {mo : Int} {g : Gr}
theorem Kq.start (h : GM P w A rn c B nn d mo g) : Kq (Not1 w P) w (two w A rn c B nn d mo) A rn c B nn d mo g (.slice none 0 0) [] := by
  have hb : Below w.heap.size w (two w A rn c B nn d mo) := below_alloc0 (below_alloc0 (Below.refl _ _) _) _
  refine ⟨hb, ?_, ?_, ?_, ?_, ?_, ?_, fun j => ?_, fun j => ?_, (h.to fun b hlt hp => ⟨hp, by omega, by omega⟩).below hb, RowV.nil _ _⟩
  all_goals first
    | (rw [World.cell?_alloc_lt _ _ _ (by simp), World.cell?_alloc_at _ _ _ _ rfl]; rfl)
    | (rw [World.cell?_alloc_at _ _ _ _ (by simp)]; rfl)
    | skip
  · have := World.frozen?_alloc_new (w.alloc (.cells #[.slice A rn c, .slice B nn d, .int .i64 mo] 28)) #[.slice none 0 0, .slice none 0 0, .int .i64 0] 28 j
    rw [show (w.alloc (.cells #[.slice A rn c, .slice B nn d, .int .i64 mo] 28)).heap.size = w.heap.size + 1 by simp] at this
    exact this
  · rw [World.frozen?_alloc_old _ _ _ (by simp)]
    exact World.frozen?_alloc_new w #[.slice A rn c, .slice B nn d, .int .i64 mo] 28 j
/-- The answer's cells written. -/
abbrev put3 (w w' : World) (u0 u1 u2 : Value) : World := ((w'.setCell ⟨w.heap.size + 1, 0, none⟩ u0).setCell ⟨w.heap.size + 1, 1, none⟩ u1).setCell ⟨w.heap.size + 1, 2, none⟩ u2
theorem put3_cells {a0 a1 a2 : Value} (h0 : w'.cell? ⟨w.heap.size + 1, 0, none⟩ = some a0) (h1 : w'.cell? ⟨w.heap.size + 1, 1, none⟩ = some a1) (h2 : w'.cell? ⟨w.heap.size + 1, 2, none⟩ = some a2) (u0 u1 u2 : Value) :
    (put3 w w' u0 u1 u2).cell? ⟨w.heap.size + 1, 0, none⟩ = some u0 ∧ (put3 w w' u0 u1 u2).cell? ⟨w.heap.size + 1, 1, none⟩ = some u1 ∧ (put3 w w' u0 u1 u2).cell? ⟨w.heap.size + 1, 2, none⟩ = some u2 := by
  have n01 : (⟨w.heap.size + 1, 1, none⟩ : Addr) ≠ ⟨w.heap.size + 1, 0, none⟩ := by intro e; injection e with _ e; omega
  have n02 : (⟨w.heap.size + 1, 2, none⟩ : Addr) ≠ ⟨w.heap.size + 1, 0, none⟩ := by intro e; injection e with _ e; omega
  have n12 : (⟨w.heap.size + 1, 2, none⟩ : Addr) ≠ ⟨w.heap.size + 1, 1, none⟩ := by intro e; injection e with _ e; omega
  refine ⟨?_, ?_, ?_⟩
  · rw [World.cell?_setCell_other _ _ _ _ n02, World.cell?_setCell_other _ _ _ _ n01]
    exact World.cell?_setCell_same _ _ _ h0
  · rw [World.cell?_setCell_other _ _ _ _ n12]
    refine World.cell?_setCell_same _ _ _ (u := a1) ?_
    rw [World.cell?_setCell_other _ _ _ _ (Ne.symm n01)]; exact h1
  · refine World.cell?_setCell_same _ _ _ (u := a2) ?_
    rw [World.cell?_setCell_other _ _ _ _ (Ne.symm n12), World.cell?_setCell_other _ _ _ _ (Ne.symm n02)]; exact h2
theorem Kq.not1 {v : Value} {zs : List Int} (h : Kq (Not1 w P) w w' A rn c B nn d mo g v zs) (hP : ∀ b, w.heap.size ≤ b → P b) : ∀ b, w'.heap.size ≤ b → Not1 w P b := fun b hb => by
  have h1 := World.block_lt_of_cell? w' _ h.r0
  exact ⟨hP b (by have := h.bel.size; omega), by simp at h1; omega, by simp at h1; omega⟩
theorem put3_kept (h : Kept (Not1 w P) w' w') (u0 u1 u2 : Value) : Kept (Not1 w P) w' (put3 w w' u0 u1 u2) :=
  ((h.set (fun e => e.2.2 rfl) _ _).set (fun e => e.2.2 rfl) _ _).set (fun e => e.2.2 rfl) _ _
theorem put3_below (h : Below w.heap.size w w') (u0 u1 u2 : Value) : Below w.heap.size w (put3 w w' u0 u1 u2) :=
  ((h.setCell (by simp) _).setCell (by simp) _).setCell (by simp) _
end

/-- The box's nodes turned. -/
theorem Kq.box {P : Nat → Prop} {w w' : World} {A : Option Addr} {rn c : Nat} {B B2 : Option Addr} {nn d nn2 d2 : Nat} {mo : Int} {g : Gr} {v : Value} {zs : List Int} {ns : List (List Int)} (h : Kq (Not1 w P) w w' A rn c B nn d mo g v zs) (hr : RowsAt (Not1 w P) w' B2 nn2 d2 ns) :
    Kq (Not1 w P) w (w'.setCell ⟨w.heap.size, 1, none⟩ (.slice B2 nn2 d2)) A rn c B2 nn2 d2 mo ⟨g.roots, ns, g.most⟩ v zs := by
  have hk : Kept (Not1 w P) w' (w'.setCell ⟨w.heap.size, 1, none⟩ (.slice B2 nn2 d2)) := (Kept.refl _ _).set (fun e => e.2.1 rfl) _ _
  have far : ∀ j, (w'.setCell ⟨w.heap.size, 1, none⟩ (.slice B2 nn2 d2)).cell? ⟨w.heap.size + 1, j, none⟩ = w'.cell? ⟨w.heap.size + 1, j, none⟩ := fun j => World.cell?_setCell_other _ _ _ _ (by intro e; injection e with e1; omega)
  exact ⟨h.bel.setCell (Nat.le_refl _) _, (World.cell?_setCell_other _ _ _ _ (by intro e; injection e with _ e1; omega)).trans h.b0, World.cell?_setCell_same _ _ _ h.b1, (World.cell?_setCell_other _ _ _ _ (by intro e; injection e with _ e1; omega)).trans h.b2,
    (far 0).trans h.r0, (far 1).trans h.r1, (far 2).trans h.r2, fun j => by rw [World.frozen?_setCell]; exact h.f j, fun j => by rw [World.frozen?_setCell]; exact h.f0 j, ⟨h.gm.mo, h.gm.ra.kept hk, hr.kept hk⟩, h.l.kept hk⟩

set_option maxHeartbeats 4000000 in
theorem push_any {P : Nat → Prop} (A : Option Addr) (rn c : Nat) (B : Option Addr) (nn d : Nat) (mo : Int) (g : Gr) (i : Nat) (v : Int) (w : World) (h : GM P w A rn c B nn d mo g) (hi : i < rn) (hrn : rn ≤ 10000) (hlen : (row g.roots i).length ≤ 10000) (hP : ∀ b, w.heap.size ≤ b → P b) :
    Calls Try.prog 33 #[gV A rn c B nn d mo, .int .i64 (i : Int), .int .i64 v] w (SomeG P w (gPush g i v)) := by
  obtain ⟨b, off, R, q, rfl, hlt, hcell, hrd, hq, hqm, hqn⟩ := h.ra.get i hi
  obtain ⟨l, hl⟩ : ∃ l, l = row g.roots i := ⟨_, rfl⟩
  rw [← hl] at hcell hrd hq hlen
  obtain ⟨n, hn⟩ : ∃ n, n = l.length := ⟨_, rfl⟩
  rw [← hn] at hcell hq hlen
  have hi0 : (0 : Int) ≤ (i : Int) := by omega
  have hi1 : (i : Int) < (rn : Int) := by omega
  have hb : Below w.heap.size w (two w (some ⟨b, off, none⟩) rn c B nn d mo) := below_alloc0 (below_alloc0 (Below.refl _ _) _) _
  have hci := (hb.cell (p := ⟨b, off + i, none⟩) hlt).trans hcell
  have H1 := Lib.hid (hrd.kept (Kept.below hb)).cells
  have H2 := Lib.hid (Kq.start h)
  have HN := Lib.hid hn; have HQ := Lib.hid hqn; have HL := Lib.hid hl; have HI := Lib.hid hi; have HPP := Lib.hid hP
  have HG := Lib.hid h
  have hq' : n ≤ q := hq
  clear hcell hrd hqn hn hl hb h hi hlt hP
  go_enter Try.func33, Try.ntmps33
  go_wp2_with (first
    | (at_builtin; refine append_more rfl _ _ 43 3 rfl Try.underlying43 info3 rfl (by decide) _ _ (.slice none 0 0) [] (OwnV.nil (Below.refl _ _)) (Nat.le_refl _) R n q (l.map (Value.int .i64)) rfl rfl (by rw [List.length_map]; exact HN.out) (by simp; omega) hq' HQ.out H1.out (map_one l) ?_
       rintro v1 w1 ho -
       rw [List.nil_append] at ho
       have HO := Lib.hid ho
       clear ho hci)
    | (at_builtin; refine append_more rfl _ _ 43 3 rfl Try.underlying43 info3 rfl (by decide) _ _ v1 (l.map (Value.int .i64)) (HO.out.step (Nat.le_refl _) (below_alloc0 (Below.refl _ _) _)) (Nat.le_refl _) (some ⟨w1.heap.size, 0, none⟩) 1 1 [.int .i64 v] rfl rfl rfl (by rw [List.length_map, ← HN.out]; omega) (Nat.le_refl _) (fun e => by cases e) (cells_lit _ _ _) (map_one [v]) ?_
       rintro v2 w2 ho2 -
       rw [show l.map (Value.int .i64) ++ [.int .i64 v] = (l ++ [v]).map (Value.int .i64) by simp] at ho2
       have HK := Lib.hid ((H2.out.step ho2.2).swap (ho2.rowV.to fun b _ hb => ⟨HPP.out b (by simp at hb; omega), by simp at hb; omega, by simp at hb; omega⟩))
       clear ho2 HO)
    | fail)
  have HKD := Lib.hid HK.out.drew
  have hkk := HK.out.kx
  go_region_held3 (fun w' => (w'.cell? ⟨w.heap.size, 0, none⟩ = some (.slice (some ⟨b, off, none⟩) rn c) ∧ w'.cell? ⟨w.heap.size, 1, none⟩ = some (.slice B nn d) ∧ w'.cell? ⟨w.heap.size, 2, none⟩ = some (.int .i64 mo)) ∧ Kx w w' (some ⟨b, off, none⟩) rn c B nn d mo)
    (first | exact Kx.all (by assumption) | exact Kx.all (Kx.drew (by assumption)) | exact Kx.all ((((by assumption : Kx w _ (some ⟨b, off, none⟩) rn c B nn d mo).set _ _).set _ _).set _ _) | go_keep)
    (first
      | (go_at_call 36; (with_reducible refine (with_any _ rn c g.roots i v2 (l ++ [v]) _ HKD.out.gm.ra HI.out hrn HKD.out.l (HKD.out.not1 HPP.out)).mono ?_); rintro r w3 ⟨A3, c3, rfl, hr3, hb3⟩; have hk3 := HKD.out.step hb3; have r0 := hk3.r0; have r1 := hk3.r1; have r2 := hk3.r2; have hfr := hk3.f; have HR3 := Lib.hid hr3; have HK3 := Lib.hid hk3; have hkx := hk3.kx; clear hr3 hb3 hk3)
      | fail)
  obtain ⟨e0, e1, e2⟩ := put3_cells HK3.out.r0 HK3.out.r1 HK3.out.r2 (.slice A3 rn c3) (.slice B nn d) (.int .i64 mo)
  have hfin : GM P (put3 w w3 (.slice A3 rn c3) (.slice B nn d) (.int .i64 mo)) A3 rn c3 B nn d mo (gPush g i v) ∧ Below w.heap.size w (put3 w w3 (.slice A3 rn c3) (.slice B nn d) (.int .i64 mo)) := by
    have hkp := put3_kept (Kept.refl (Not1 w P) w3) (.slice A3 rn c3) (.slice B nn d) (.int .i64 mo)
    refine ⟨⟨HK3.out.gm.mo, ?_, (HK3.out.gm.rb.kept hkp).to fun _ _ h => h.1⟩, put3_below HK3.out.bel _ _ _⟩
    have := (HR3.out.kept hkp).to (Q := P) fun _ _ h => h.1
    rw [HL.out] at this
    simpa [gPush] using this
  have HF := Lib.hid hfin
  clear hfin r0 r1 r2 hfr hkx hkk
  go_wp2_with (fail)
  exact bodyPost_ret (v := gV A3 rn c3 B nn d mo) (by simp [results, Try.results33, go_sem, e0, e1, e2]) rfl ⟨A3, rn, c3, B, nn, d, mo, rfl, HF.out⟩
end Go.Proofs.Ytjnkcomedcbenaa
