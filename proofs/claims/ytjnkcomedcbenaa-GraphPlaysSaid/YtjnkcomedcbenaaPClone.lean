/- Lists copied to new memory: roots and slots as they are told; walked. -/
import Derived.Test.YtjnkcomedcbenaaPAlloc
import Derived.Lib.SliceRun
namespace Go.Proofs.Ytjnkcomedcbenaa
open Go.RowKit
set_option linter.unusedVariables false

/-- A list in new memory. -/
def SomeRowN (zs : List Int) (w : World) (e : Ending) (w' : World) : Prop :=
  ∃ v, e = .returned v ∧ RowV (fun k => w.heap.size ≤ k) w' v zs ∧ Below w.heap.size w w'
theorem own_start (w : World) (T : TypeId) : OwnV T w.heap.size w (w.alloc (.cells #[] T)) (.slice (some ⟨w.heap.size, 0, none⟩) 0 0) [] :=
  ⟨World.ownsRow_made w #[] 0 (Nat.le_refl _) (Nat.zero_le _) (by simp), below_alloc0 (Below.refl _ _) _⟩

theorem q43 : ∀ (w : World) (a : Option Addr) (n c n' c' : Nat), (binOp .eql 43 (.slice a n c) (.slice none n' c')).run Try.prog w = .ok (.bool a.isNone) w := fun w a n c n' c' => Lib.run_eql_slice_nil w _ _ a n c n' c' Try.underlying43
theorem q26 : ∀ (w : World) (a : Option Addr) (n c n' c' : Nat), (binOp .eql 26 (.slice a n c) (.slice none n' c')).run Try.prog w = .ok (.bool a.isNone) w := fun w a n c n' c' => Lib.run_eql_slice_nil w _ _ a n c n' c' Try.underlying26
set_option maxRecDepth 100000 in
set_option maxHeartbeats 1600000 in
theorem cloneP {P : Nat → Prop} (u : Value) (zs : List Int) (w : World) (h : RowV P w u zs) (hl : zs.length ≤ 10000) : Calls Try.prog 42 #[u] w (SomeRowN zs w) := by
  obtain ⟨A, c, rfl, hr, h1, h2, h3⟩ := h
  obtain ⟨n, hn⟩ : ∃ n, n = zs.length := ⟨_, rfl⟩
  rw [← hn]
  cases A with
  | none =>
    have hc := h3 rfl
    subst hc
    have hz : zs = [] := List.eq_nil_of_length_eq_zero (by omega)
    subst hz
    clear hr h1 h2 h3
    have q := q43
    go_enter Try.func42, Try.ntmps42
    go_wp2
    go_ret
    exact ⟨_, rfl, RowV.nil _ _, Below.refl _ _⟩
  | some a =>
    have HC := Lib.hid hr.cells; have HN := Lib.hid hn; have HL := Lib.hid hl; have H1 := Lib.hid h1
    have HS := Lib.hid (own_start w 3)
    clear hr hn hl h1 h2 h3
    have q := q43
    go_enter Try.func42, Try.ntmps42
    go_wp2_with (first
      | (at_builtin; refine append_more (P := P) rfl _ _ 43 3 rfl Try.underlying43 info3 rfl (by decide) w.heap.size w _ [] HS.out (Nat.le_refl _) (some a) n c (zs.map (Value.int .i64)) rfl rfl (by rw [HN.out]; simp) (by have := HL.out; have := HN.out; simp; omega) (by have := HN.out; have := H1.out; omega) (fun e => by cases e) (HC.out.kept (Kept.below (below_alloc0 (Below.refl _ _) _))) (map_one zs) ?_
         rintro v' w1 ho -
         have HO := Lib.hid ho; clear ho)
      | fail)
    go_ret
    have ho := HO.out
    rw [List.nil_append] at ho
    exact ⟨_, rfl, ho.rowV, ho.2⟩
set_option maxRecDepth 100000 in
set_option maxHeartbeats 1600000 in
theorem cloneRowsP (R n : Nat) (vs : List Value) (w : World) (hn : n = vs.length) (hc : ∀ j, j < n → w.cell? ⟨R, j, none⟩ = some (vs.getD j undef)) (hR : R < w.heap.size) (h1 : ∀ v ∈ vs, v.oneCell' = true) (hl : n ≤ 10000) :
    Calls Try.prog 37 #[.slice (some ⟨R, 0, none⟩) n n] w fun e w' => ∃ v, e = .returned v ∧ OwnV 43 w.heap.size w w' v vs := by
  have HC : Hid (Cells Any w (some ⟨R, 0, none⟩) vs) := Lib.hid fun _ => ⟨R, 0, rfl, ⟨hR, trivial⟩, fun j hj => by rw [Nat.zero_add]; exact hc j (by omega)⟩
  have HN := Lib.hid hn; have HL := Lib.hid hl; have H1 := Lib.hid h1
  have HS := Lib.hid (own_start w 43)
  clear hn hc h1 hl hR
  have q := q26
  go_enter Try.func37, Try.ntmps37
  go_wp2_with (first
    | (at_builtin; refine append_more (P := Any) rfl _ _ 26 43 rfl Try.underlying26 info43 rfl (by decide) w.heap.size w _ [] HS.out (Nat.le_refl _) (some ⟨R, 0, none⟩) n n vs rfl rfl HN.out (by have := HL.out; simp; omega) (Nat.le_refl _) (fun e => by cases e) (HC.out.kept (Kept.below (below_alloc0 (Below.refl _ _) _))) H1.out ?_
       rintro v' w1 ho -
       have HO := Lib.hid ho; clear ho)
    | fail)
  go_ret
  have ho := HO.out
  rw [List.nil_append] at ho
  exact ⟨_, rfl, ho⟩

section
variable {w : World} {S R : Nat} {t : Nat → Tag} {rv sv : List Value} {N : Value} {g : Gr}
set_option maxHeartbeats 800000 in
theorem rootsP (h : PM w S R t rv sv N g) (hk : Ok g) (hmo : g.most ≤ 1000) (m : Int) : Calls Try.prog 23 #[ptr S, .int .i64 m] w (SomeRowN (if isIn g.roots.length m = true then row g.roots m.toNat else []) w) := by
  have hl : (if isIn g.roots.length m = true then row g.roots m.toNat else []).length ≤ 10000 := by
    split
    · rename_i e
      have e := isIn_iff.1 e
      have := hk.len m.toNat (by omega)
      omega
    · simp
  have hr := h.rowAt m
  obtain ⟨zs, hz⟩ : ∃ zs, zs = (if isIn g.roots.length m = true then row g.roots m.toNat else []) := ⟨_, rfl⟩
  rw [← hz] at hl hr ⊢
  have H := Lib.hid h; have HR := Lib.hid hr; have HL := Lib.hid hl
  clear hz hr
  clear h hk hmo hl
  go_enter Try.func23, Try.ntmps23
  go_wp2_with (first
    | (go_at_call 43; (with_reducible refine (rootsOf_any H.out m).mono ?_); rintro r w1 ⟨rfl, rfl⟩)
    | (go_at_call 42; (with_reducible refine (cloneP _ _ _ HR.out HL.out).mono ?_); rintro r w1 ⟨v, rfl, hv, hb⟩; have HV := Lib.hid hv; have HB := Lib.hid hb; clear hv hb)
    | fail)
  go_ret
  exact ⟨_, rfl, HV.out, HB.out⟩
set_option maxHeartbeats 800000 in
theorem slotsP (h : PM w S R t rv sv N g) (hk : Ok g) (v : Int) (h0 : 0 ≤ v) (h1 : v ≤ 1000000) : Calls Try.prog 24 #[ptr S, .int .i64 v] w (SomeRowN (if isIn g.nodes.length (v - 1) = true then row g.nodes (v - 1).toNat else []) w) := by
  have hl : (if isIn g.nodes.length (v - 1) = true then row g.nodes (v - 1).toNat else []).length ≤ 10000 := by
    split
    · rename_i e
      have e := isIn_iff.1 e
      have := hk.sz (v - 1).toNat (by omega)
      omega
    · simp
  have hr := h.slotAt (v - 1)
  obtain ⟨zs, hz⟩ : ∃ zs, zs = (if isIn g.nodes.length (v - 1) = true then row g.nodes (v - 1).toNat else []) := ⟨_, rfl⟩
  rw [← hz] at hl hr ⊢
  clear hz
  have H := Lib.hid h; have HR := Lib.hid hr; have HL := Lib.hid hl; clear hr; have H0 := Lib.hid h0; have H1 := Lib.hid h1
  clear h hk hl h0 h1
  go_enter Try.func24, Try.ntmps24
  go_wp2_with (first
    | (go_at_call 38; (with_reducible refine (slotsOf_any H.out v H0.out H1.out).mono ?_); rintro r w1 ⟨rfl, rfl⟩)
    | (go_at_call 42; (with_reducible refine (cloneP _ _ _ HR.out HL.out).mono ?_); rintro r w1 ⟨v, rfl, hv, hb⟩; have HV := Lib.hid hv; have HB := Lib.hid hb; clear hv hb)
    | fail)
  go_ret
  exact ⟨_, rfl, HV.out, HB.out⟩
end
end Go.Proofs.Ytjnkcomedcbenaa
