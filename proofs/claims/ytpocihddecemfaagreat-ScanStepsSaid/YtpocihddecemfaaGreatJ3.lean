/-  -/
import Derived.Test.YtpocihddecemfaaGreatJ2
import Derived.Test.YtpocihddecemfaaGreatLayMap
import Derived.Deep.MidRow
import Derived.Lib.Hide
import Derived.IntWalk
import Derived.Test.YtpocihddecemfaaGreatJ5
import Derived.ArgAppend
import Derived.Laws.Slices
namespace Go.Proofs.YtpocihddecemfaaGreat
open Go.RowKit
set_option linter.unusedVariables false
set_option maxRecDepth 100000
theorem made_words (n : Nat) : (madeCells (Value.int .u64 0).cells n).toList = List.replicate n (.int .u64 0) := by
  apply List.ext_getElem?
  intro j
  by_cases hj : j < n
  · simp [madeCells, hj, Value.cells, Nat.mod_one]
  · simp [madeCells, hj]
theorem make_words (n : Nat) (w : World) (hn : n ≤ 1000000) : (Instr.makeSlice 26 (.int .i64 (n : Int)) (.int .i64 (n : Int))).run Tryz.prog w = .ok (.slice (some ⟨w.heap.size, 0, none⟩) n n) (w.alloc (.cells ((List.replicate n (0 : Int)).map (Value.int .u64)).toArray 25)) := by
  obtain ⟨i0, hi, hz0, hz1, hz2⟩ := info_parts info34
  have := run_make w 26 25 i0 (.int .u64 0) Tryz.underlying26 hi hz0 .i64 .i64 n n (by omega) (Int.le_refl _) (by rw [hz2]; omega) (by omega)
  have e : madeCells (Value.int .u64 0).cells n = ((List.replicate n (0 : Int)).map (Value.int .u64)).toArray := by
    apply Array.ext'
    rw [made_words]; simp
  simpa [hz1, e] using this
theorem row_new (w : World) (L : List Int) : Row (w.alloc (.cells (L.map (Value.int .u64)).toArray 25)) w.heap.size L := by
  show (w.heap.push _)[w.heap.size]? = _
  simp
theorem splice_all {α : Type} (L cs : List α) (h : cs.length = L.length) : splice L 0 cs = cs := by
  simp [splice, h]
def SomeRow (w : World) (L : List Int) (e : Ending) (w' : World) : Prop :=
  e = .returned (.slice (some ⟨w.heap.size, 0, none⟩) L.length L.length) ∧ Row w' w.heap.size L ∧ Below w.heap.size w w'
set_option maxHeartbeats 1000000 in
theorem copied_any (A : Option Addr) (n cap : Nat) (zs : List Int) (w : World) (hn : n = zs.length) (h : Reads .u64 w A zs) (hl : n ≤ 1000000) :
    Calls Tryz.prog 42 #[.slice A n cap] w (SomeRow w zs) := by
  have hmk := make_words n w hl
  have HRow := Lib.hid (row_new w (List.replicate n (0 : Int)))
  obtain ⟨V, hV⟩ : ∃ V, V = (List.replicate n (0 : Int)).map (Value.int .u64) := ⟨_, rfl⟩
  obtain ⟨X, hX⟩ : ∃ X, X = zs.map (Value.int .u64) := ⟨_, rfl⟩
  rw [← hV] at hmk
  obtain ⟨W1, hW1⟩ : ∃ W1, W1 = w.alloc (.cells V.toArray 25) := ⟨_, rfl⟩
  have hb1 : Below w.heap.size w W1 := by rw [hW1]; exact below_alloc0 (Below.refl _ _) _
  have hrow : W1.heap[w.heap.size]? = some (.cells V.toArray 25 (0, 0)) := by rw [hW1, hV]; exact HRow.out
  rw [← hW1] at hmk
  have hVl : V.length = n := by rw [hV]; simp
  have hXl : X.length = n := by rw [hX, hn]; simp
  have hXc : ∀ v ∈ X, v.oneCell' = true := by
    rw [hX]; intro v hv
    obtain ⟨x, _, rfl⟩ := List.mem_map.1 hv
    rfl
  have hsrc : 0 < X.length → (some (⟨w.heap.size, 0, none⟩ : Addr)) = some ⟨w.heap.size, 0, none⟩ ∧ ∃ ad, A = some ad ∧ ∀ j v, X[j]? = some v → W1.cell? (ad.add j) = some v := fun h0 => by
    refine ⟨rfl, ?_⟩
    obtain ⟨b, off, rfl, hlt, hc⟩ := (h.below hb1 (Nat.le_refl _)) (by omega)
    refine ⟨_, rfl, fun j v hj => ?_⟩
    have hjn : j < zs.length := by
      rcases Nat.lt_or_ge j zs.length with h' | h'
      · exact h'
      · rw [hX, List.getElem?_eq_none (by simpa using h')] at hj; cases hj
    rw [add_off, hc j hjn]
    rw [hX, map_get .u64 zs j hjn] at hj
    exact hj
  have HB1 := Lib.hid hb1; have HROW := Lib.hid hrow; have HVL := Lib.hid hVl; have HXL := Lib.hid hXl; have HXC := Lib.hid hXc; have HS := Lib.hid hsrc; have HN := Lib.hid hn; have HX := Lib.hid hX
  clear hb1 hrow hVl hXl hXc hsrc hn hX h hW1 hV
  go_enter Tryz.func42, Tryz.ntmps42
  go_wp2_with (first
    | (with_reducible refine wpList_copy_splice rfl _ _ 26 26 rfl 25 Tryz.underlying26 (by kernel_rfl) (some ⟨w.heap.size, 0, none⟩) A n n n cap rfl rfl w.heap.size 0 V 25 HROW.out X (by rw [HXL.out]; simp) HS.out (by have := HVL.out; have := HXL.out; omega) HXC.out w.heap.size w HB1.out (Nat.le_refl _) ?_; intro w2 hg2 hb2)
    | fail)
  go_ret
  refine ⟨?_, ?_, hb2⟩
  · rw [HN.out]; rfl
  · have := hg2.out
    rw [splice_all V X (by rw [HXL.out, HVL.out]), HX.out] at this
    exact this
def SomeNew (w : World) (L : List Int) (e : Ending) (w' : World) : Prop :=
  ∃ S D, e = .returned (ptr S) ∧ w.heap.size ≤ S ∧ w.heap.size ≤ D ∧ St w' S D L 0 ∧ Below w.heap.size w w'
theorem new_st {w w1 : World} {L : List Int} {n : Nat} (hn : n = L.length) (hr : Row w1 w.heap.size L) (hb : Below w.heap.size w w1) :
    SomeNew w L (.returned (ptr w1.heap.size)) (w1.alloc (.cells #[.slice (some ⟨w.heap.size, 0, none⟩) n n, .int .i64 0] 101)) := by
  have hlt := hr.lt
  refine ⟨w1.heap.size, w.heap.size, rfl, hb.size, Nat.le_refl _, ⟨by omega, ?_, ?_⟩, below_alloc0 hb _⟩
  · rw [hn]
    show (w1.heap.push _)[w1.heap.size]? = _
    simp
  · exact (Below.heap_alloc _ _ _ hlt).trans hr
set_option maxHeartbeats 1000000 in
theorem new_any (A : Option Addr) (n cap : Nat) (zs : List Int) (w : World) (hn : n = zs.length) (h : Reads .u64 w A zs) (hl : n ≤ 1000000) :
    Calls Tryz.prog 31 #[.slice A n cap] w (SomeNew w zs) := by
  have H := Lib.hid h; have HN := Lib.hid hn
  clear h hn
  go_enter Tryz.func31, Tryz.ntmps31
  go_wp2_with (first
    | (go_at_call 42; (with_reducible refine (copied_any A n cap zs _ HN.out H.out hl).mono ?_); rintro r w1 ⟨rfl, hr, hb⟩; rw [← HN.out]; have HK := Lib.hid (new_st HN.out hr hb); clear hr hb)
    | fail)
  go_ret
  exact HK.out
set_option maxHeartbeats 1000000 in
theorem all_any {S D : Nat} {L : List Int} {c : Int} (w : World) (h : St w S D L c) (hl : L.length ≤ 1000000) :
    Calls Tryz.prog 13 #[ptr S] w (SomeRow w L) := by
  have hc := h.head
  have H := Lib.hid h.row.reads
  clear h
  obtain ⟨n, hn⟩ : ∃ n, n = L.length := ⟨_, rfl⟩
  rw [← hn] at hc hl
  have HN := Lib.hid hn; clear hn
  go_enter Tryz.func13, Tryz.ntmps13
  go_wp2_with (first
    | (go_at_call 42; (with_reducible refine (copied_any _ n _ L _ HN.out H.out hl).mono ?_); rintro r w1 ⟨rfl, hr⟩; rw [← HN.out]; have HK := Lib.hid hr; clear hr)
    | fail)
  go_ret
  exact ⟨by rw [HN.out]; rfl, HK.out⟩
end Go.Proofs.YtpocihddecemfaaGreat

namespace Go.Proofs.YtpocihddecemfaaGreat
open Go.RowKit
set_option linter.unusedVariables false
def Own (B S D : Nat) (w0 w : World) (L : List Int) (c : Int) : Prop := B ≤ S ∧ B ≤ D ∧ B ≤ w0.heap.size ∧ St w S D L c ∧ Below B w0 w
end Go.Proofs.YtpocihddecemfaaGreat

namespace Go.Proofs.YtpocihddecemfaaGreat
open Go.RowKit
set_option linter.unusedVariables false
structure Two (B S D E F : Nat) (w0 w : World) (L : List Int) (c : Int) (M : List Int) (d : Int) : Prop where
  one : Own B S D w0 w L c
  two : Own B E F w0 w M d
  n1 : S ≠ E
  n2 : S ≠ F
  n3 : D ≠ E
  n4 : D ≠ F
end Go.Proofs.YtpocihddecemfaaGreat

namespace Go.Proofs.YtpocihddecemfaaGreat
open Go.RowKit
set_option linter.unusedVariables false
set_option linter.unusedSimpArgs false
structure UF (F : Nat → Prop) (w w' : World) : Prop where
  os : w'.os = w.os
  tape : w'.tape = w.tape
  output : w'.output = w.output
  size : w.heap.size ≤ w'.heap.size
  block : ∀ k, k < w.heap.size → ¬ F k → w'.heap[k]? = w.heap[k]?
theorem UF.refl (F : Nat → Prop) (w : World) : UF F w w := ⟨rfl, rfl, rfl, Nat.le_refl _, fun _ _ _ => rfl⟩
theorem UF.trans {F G H : Nat → Prop} {a b c : World} (h : UF F a b) (k : UF G b c) (hF : ∀ x, F x → H x) (hG : ∀ x, x < a.heap.size → G x → H x) : UF H a c :=
  ⟨k.os.trans h.os, k.tape.trans h.tape, k.output.trans h.output, Nat.le_trans h.size k.size, fun i hi hn => (k.block i (Nat.lt_of_lt_of_le hi h.size) (fun g => hn (hG i hi g))).trans (h.block i hi (fun f => hn (hF i f)))⟩
theorem UF.mono {F H : Nat → Prop} {a b : World} (h : UF F a b) (hF : ∀ x, x < a.heap.size → F x → H x) : UF H a b :=
  ⟨h.os, h.tape, h.output, h.size, fun i hi hn => h.block i hi (fun f => hn (hF i hi f))⟩
theorem UF.of_below {F : Nat → Prop} {w w' : World} (h : Below w.heap.size w w') : UF F w w' := ⟨h.os, h.tape, h.output, h.size, fun k hk _ => h.block k hk⟩
theorem UF.of_upd {S D : Nat} {w w' : World} (h : Upd S D w w') : UF (fun k => k = S ∨ k = D) w w' := ⟨h.os, h.tape, h.output, h.size, fun k hk hn => h.block k hk (fun e => hn (.inl e)) (fun e => hn (.inr e))⟩
theorem UF.set (w : World) (B i : Nat) (v : Value) : UF (fun k => k = B) w (w.setCell ⟨B, i, none⟩ v) := ⟨rfl, rfl, rfl, by simp, fun k _ hn => heap_setCell_other w ⟨B, i, none⟩ k v hn⟩
theorem below_uf {B : Nat} {F : Nat → Prop} {w0 w w' : World} (h : Below B w0 w) (hB : B ≤ w0.heap.size) (u : UF F w w') (hF : ∀ k, F k → B ≤ k) : Below B w0 w' :=
  h.trans ⟨u.os, u.tape, u.output, u.size, fun k hk => u.block k (Nat.lt_of_lt_of_le hk (Nat.le_trans hB h.size)) (fun f => by have := hF k f; omega)⟩
theorem IsMap_same {w w' : World} {N : Nat} {c : Lay.Cfg} (h : Lay.IsMap w N c) (hs : w.heap.size ≤ w'.heap.size) (hb : w'.heap[N]? = w.heap[N]?) : Lay.IsMap w' N c :=
  ⟨Nat.lt_of_lt_of_le h.1 hs, fun i hi => (World.cell?_of_block (w := w) (a := ⟨N, i, none⟩) hb).trans (h.2 i hi)⟩
theorem St_same {w w' : World} {S D : Nat} {L : List Int} {c : Int} (h : St w S D L c) (h1 : w'.heap[S]? = w.heap[S]?) (h2 : w'.heap[D]? = w.heap[D]?) : St w' S D L c :=
  ⟨h.ne, h1.trans h.top, h2.trans h.row⟩
end Go.Proofs.YtpocihddecemfaaGreat

namespace Go.Proofs.YtpocihddecemfaaGreat
open Go.RowKit
set_option linter.unusedVariables false
set_option linter.unusedSimpArgs false
set_option linter.unnecessarySimpa false
def splice (V : Array Value) (k : Nat) (U : Array Value) : Array Value := (Array.range V.size).map fun j => if k ≤ j ∧ j < k + U.size then U.getD (j - k) undef else V.getD j undef
theorem splice_size (V : Array Value) (k : Nat) (U : Array Value) : (splice V k U).size = V.size := by simp [splice]
theorem splice_in {V : Array Value} {k : Nat} {U : Array Value} {j : Nat} (h : k + U.size ≤ V.size) (hj : j < U.size) : (splice V k U)[k + j]? = U[j]? := by
  have h1 : k + j < V.size := by omega
  simp [splice, h1, hj]
theorem splice_out {V : Array Value} {k : Nat} {U : Array Value} {j : Nat} (h : j < k ∨ k + U.size ≤ j) : (splice V k U)[j]? = V[j]? := by
  by_cases hj : j < V.size
  · have hn : ¬ (k ≤ j ∧ j < k + U.size) := by omega
    simp only [splice, Array.getElem?_map, Array.getElem?_range, hj, if_true, Option.map_some, if_neg hn]
    simp [hj]
  · rw [Array.getElem?_eq_none (by rw [splice_size]; omega), Array.getElem?_eq_none (by omega)]
theorem row_get {w : World} {B : Nat} {V : Array Value} {T : TypeId} (h : w.heap[B]? = some (.cells V T (0, 0))) (k : Nat) : w.cell? ⟨B, k, none⟩ = V[k]? := cell_of_row w B k V T _ h
theorem row_fro {w : World} {B : Nat} {V : Array Value} {T : TypeId} (h : w.heap[B]? = some (.cells V T (0, 0))) (k : Nat) : w.frozen? ⟨B, k, none⟩ = false := frozen_of_row w B _ _ _ h
theorem row_put {w : World} {B : Nat} {V : Array Value} {T : TypeId} (h : w.heap[B]? = some (.cells V T (0, 0))) (k : Nat) (v : Value) : (w.setCell ⟨B, k, none⟩ v).heap[B]? = some (.cells (V.setIfInBounds k v) T (0, 0)) ∧ Upd B B w (w.setCell ⟨B, k, none⟩ v) :=
  ⟨heap_setCell_same w B k _ T v h, rfl, rfl, rfl, by simp, fun j hj h1 _ => heap_setCell_other w ⟨B, k, none⟩ j v h1⟩
theorem row_stretch {w : World} {B : Nat} {V U : Array Value} {T : TypeId} (k : Nat) (h : w.heap[B]? = some (.cells V T (0, 0))) (hs : k + U.size ≤ V.size) : (w.setCells B k U.toList).heap[B]? = some (.cells (splice V k U) T (0, 0)) ∧ Upd B B w (w.setCells B k U.toList) := by
  have key : ∀ (l : List Value) (o : Nat) (w : World) (V : Array Value), w.heap[B]? = some (.cells V T (0, 0)) → o + l.length ≤ V.size →
      ∃ V', (w.setCells B o l).heap[B]? = some (.cells V' T (0, 0)) ∧ V'.size = V.size ∧ (∀ j, j < o ∨ o + l.length ≤ j → V'[j]? = V[j]?) ∧ (∀ j, j < l.length → V'[o + j]? = l[j]?) ∧ Upd B B w (w.setCells B o l) := by
    intro l
    induction l with
    | nil =>
      intro o w V h hl
      exact ⟨V, h, rfl, fun _ _ => rfl, fun j hj => by simp at hj, ⟨rfl, rfl, rfl, Nat.le_refl _, fun _ _ _ _ => rfl⟩⟩
    | cons v l ih =>
      intro o w V h hl
      simp only [List.length_cons] at hl
      have h1 := heap_setCell_same w B o _ T v h
      obtain ⟨V', g1, g2, g3, g4, g5⟩ := ih (o + 1) (w.setCell ⟨B, o, none⟩ v) (V.setIfInBounds o v) h1 (by simp; omega)
      refine ⟨V', g1, by rw [g2]; simp, fun j hj => ?_, fun j hj => ?_, ?_⟩
      · simp only [List.length_cons] at hj
        rw [g3 j (by omega), Array.getElem?_setIfInBounds_ne (by omega)]
      · cases j with
        | zero =>
          have ho : o < V.size := by omega
          rw [Nat.add_zero, g3 o (by omega)]; simp [ho]
        | succ j =>
          have := g4 j (by simp at hj; omega)
          rw [show o + (j + 1) = o + 1 + j by omega, this]; simp
      · have u1 := (row_put h o v).2
        exact ⟨g5.os.trans u1.os, g5.tape.trans u1.tape, g5.output.trans u1.output, Nat.le_trans u1.size g5.size, fun k hk a b => (g5.block k (Nat.lt_of_lt_of_le hk u1.size) a b).trans (u1.block k hk a b)⟩
  obtain ⟨V', g1, g2, g3, g4, g5⟩ := key U.toList k w V h (by simpa using hs)
  refine ⟨?_, g5⟩
  have e : V' = splice V k U := by
    apply Array.ext_getElem?
    intro j
    by_cases hj : j < k ∨ k + U.size ≤ j
    · rw [g3 j (by simpa using hj), splice_out hj]
    · obtain ⟨i, rfl⟩ : ∃ i, j = k + i := ⟨j - k, by omega⟩
      have := g4 i (by simp; omega)
      rw [this, splice_in hs (by omega)]; simp
  rw [g1, e]
theorem rng_sub {w : World} {B : Nat} {V D : Array Value} {T : TypeId} (k : Nat) (h : w.heap[B]? = some (.cells V T (0, 0))) (hd : ∀ j, j < D.size → V[k + j]? = D[j]?) : w.rangeAt B k D.toList := fun j v hv => by
  have hj : j < D.size := by have := (List.getElem?_eq_some_iff.1 hv).1; simpa using this
  rw [row_get h, hd j hj]; simpa using hv
theorem there_sub {w : World} {B : Nat} {V : Array Value} {T : TypeId} (k n : Nat) (h : w.heap[B]? = some (.cells V T (0, 0))) (hn : k + n ≤ V.size) : w.there B k n := fun j hj => by
  refine ⟨?_, row_fro h _⟩
  rw [row_get h, Array.getElem?_eq_getElem (by omega)]; rfl
theorem rng_all {w : World} {B : Nat} {V : Array Value} {T : TypeId} (h : w.heap[B]? = some (.cells V T (0, 0))) : w.rangeAt B 0 V.toList := rng_sub 0 h (fun j _ => by rw [Nat.zero_add])
theorem row_all {w : World} {B : Nat} {V U : Array Value} {T : TypeId} (h : w.heap[B]? = some (.cells V T (0, 0))) (hs : V.size = U.size) : (w.setCells B 0 U.toList).heap[B]? = some (.cells U T (0, 0)) ∧ Upd B B w (w.setCells B 0 U.toList) := by
  obtain ⟨g, u⟩ := row_stretch 0 h (U := U) (by omega)
  refine ⟨?_, u⟩
  have e : splice V 0 U = U := by
    apply Array.ext_getElem?
    intro j
    by_cases hj : j < U.size
    · have := splice_in (V := V) (k := 0) (U := U) (j := j) (by omega) hj
      rwa [Nat.zero_add] at this
    · rw [Array.getElem?_eq_none (by rw [splice_size]; omega), Array.getElem?_eq_none (by omega)]
  rw [g, e]
theorem one_put {V : Array Value} (h : V.all (·.oneCell') = true) (k : Nat) {v : Value} (hv : v.oneCell' = true) : (V.setIfInBounds k v).all (·.oneCell') = true := by
  rw [Array.all_eq_true_iff_forall_mem] at h ⊢
  intro x hx
  obtain ⟨j, hj⟩ := Array.mem_iff_getElem?.1 hx
  by_cases e : k = j
  · subst e
    by_cases hk : k < V.size
    · rw [Array.getElem?_setIfInBounds_self, if_pos hk] at hj
      cases hj; exact hv
    · rw [Array.getElem?_eq_none (by simpa using hk)] at hj; cases hj
  · rw [Array.getElem?_setIfInBounds_ne e] at hj
    exact h x (Array.mem_iff_getElem?.2 ⟨j, hj⟩)
theorem one_splice {V U : Array Value} (h : V.all (·.oneCell') = true) {k : Nat} (hs : k + U.size ≤ V.size) (hu : U.all (·.oneCell') = true) : (splice V k U).all (·.oneCell') = true := by
  rw [Array.all_eq_true_iff_forall_mem] at h hu ⊢
  intro x hx
  obtain ⟨j, hj⟩ := Array.mem_iff_getElem?.1 hx
  by_cases e : j < k ∨ k + U.size ≤ j
  · rw [splice_out e] at hj; exact h x (Array.mem_iff_getElem?.2 ⟨j, hj⟩)
  · obtain ⟨i, rfl⟩ : ∃ i, j = k + i := ⟨j - k, by omega⟩
    rw [splice_in hs (by omega)] at hj
    exact hu x (Array.mem_iff_getElem?.2 ⟨i, hj⟩)
end Go.Proofs.YtpocihddecemfaaGreat

namespace Go.Proofs.YtpocihddecemfaaGreat
open Go.RowKit
set_option linter.unusedVariables false
set_option linter.unusedSimpArgs false
set_option linter.unnecessarySimpa false
set_option maxRecDepth 100000
theorem row64 : ∃ d, (Tryz.prog).underlying 64 = some d ∧ d.isRow = true := ⟨_, rfl, rfl⟩
theorem loadZ {w : World} {B : Nat} {V : Array Value} (hb : w.heap[B]? = some (.cells V 64 (0, 0))) (hs : V.size = 45) : (loadVar 64 ⟨B, 0, none⟩).run Tryz.prog w = .ok (.agg V) w := by
  have e := run_loadVar_mid (P := Tryz.prog) w B 0 64 V.toList _ (rng_all hb) row64.choose_spec.1 row64.choose_spec.2 (by rw [show V.toList.length = 45 from by simpa using hs]; kernel_rfl)
  simpa using e
theorem wpList_loadZ {ops : Array Oper} {rest : List Oper} {op : Oper} {a : Act} {w : World} {Q : Exit → Act → World → Prop} (hgd : op.guard = none) (x : Operand) (ho : op.op = .load 64 x) (B : Nat) (V : Array Value)
    (hx : a.eval x = .pointer (some ⟨B, 0, none⟩)) (hb : w.heap[B]? = some (.cells V 64 (0, 0))) (hv : V.size = 45)
    (h : wpList Tryz.prog ops Q rest (a.put op.dst (.agg V)) w) : wpList Tryz.prog ops Q (op :: rest) a w := by
  refine wpList_load_mid hgd 64 x ho B 0 hx V.toList _ (rng_all hb) row64.choose_spec.1 row64.choose_spec.2 (by rw [show V.toList.length = 45 from by simpa using hv]; kernel_rfl) ?_
  simpa using h
theorem wpList_storeZ {ops : Array Oper} {rest : List Oper} {op : Oper} {a : Act} {w : World} {Q : Exit → Act → World → Prop} (hgd : op.guard = none) (x y : Operand) (ho : op.op = .store 64 x y) (B : Nat) (U V : Array Value)
    (hx : a.eval x = .pointer (some ⟨B, 0, none⟩)) (hy : a.eval y = .agg V) (hb : w.heap[B]? = some (.cells U 64 (0, 0))) (hu : U.size = 45) (hv : V.size = 45) (h1 : V.all (·.oneCell') = true)
    (h : wpList Tryz.prog ops Q rest (a.put op.dst undef) (w.setCells B 0 V.toList)) : wpList Tryz.prog ops Q (op :: rest) a w :=
  wpList_store_mid hgd 64 x y ho B 0 V hx hy (there_sub 0 _ hb (by omega)) (by rw [hv]; kernel_rfl) h1 h
abbrev zero45 : Array Value := #[.int .i64 0, .int .i64 0, .int .i64 0, .int .i64 0, .int .u64 0, .int .i64 0, .int .i64 0, .int .i64 0, .int .i64 0, .int .i64 0, .int .u64 0, .int .u64 0, .bool false, .int .i64 0, .int .u64 0, .int .i64 0, .int .i64 0, .int .i64 0, .int .i64 0, .int .i64 0, .int .i64 0, .int .u64 0, .int .u64 0, .int .u64 0, .bool false, .int .i64 0, .int .i64 0, .int .i64 0, .slice none 0 0, .int .i64 0, .int .i64 0, .int .i64 0, .int .i64 0, .int .i64 0, .slice none 0 0, .int .u32 0, .int .u64 0, .int .u32 0, .int .i64 0, .bool false, .int .i64 0, .int .i64 0, .int .i64 0, .int .i64 0, .int .i64 0]
structure ZB (w w' : World) (B R : Nat) (V : Array Value) : Prop where
  bel : Below w.heap.size w w'
  b : w.heap.size ≤ B ∧ w.heap.size ≤ R ∧ B ≠ R
  bm : w'.heap[B]? = some (.cells V 64 (0, 0))
  br : w'.heap[R]? = some (.cells zero45 64 (0, 0))
section
variable {w w' w2 : World} {B R : Nat} {V U : Array Value}
theorem ZB.step (h : ZB w w' B R V) (hb : Below w'.heap.size w' w2) : ZB w w2 B R V :=
  ⟨below_step h.bel h.bel.size hb, h.b, (hb.block _ (Array.getElem?_eq_some_iff.1 h.bm).1).trans h.bm, (hb.block _ (Array.getElem?_eq_some_iff.1 h.br).1).trans h.br⟩
theorem ZB.set (h : ZB w w' B R V) (hu : U.size = V.size) : ZB w (w'.setCells B 0 U.toList) B R U := by
  obtain ⟨g, u⟩ := row_all (U := U) h.bm hu.symm
  exact ⟨below_uf h.bel (Nat.le_refl _) (UF.of_upd u) (fun k e => by have := h.b; rcases e with rfl | rfl <;> omega), h.b, g, (u.block R (Array.getElem?_eq_some_iff.1 h.br).1 (fun e => h.b.2.2 e.symm) (fun e => h.b.2.2 e.symm)).trans h.br⟩
theorem ZB.put (h : ZB w w' B R V) (k : Nat) (v : Value) : ZB w (w'.setCell ⟨B, k, none⟩ v) B R (V.setIfInBounds k v) := by
  obtain ⟨g, u⟩ := row_put h.bm k v
  exact ⟨below_uf h.bel (Nat.le_refl _) (UF.of_upd u) (fun k e => by have := h.b; rcases e with rfl | rfl <;> omega), h.b, g, (u.block R (Array.getElem?_eq_some_iff.1 h.br).1 (fun e => h.b.2.2 e.symm) (fun e => h.b.2.2 e.symm)).trans h.br⟩
theorem ZB.stretch (h : ZB w w' B R V) (k : Nat) (hk : k + U.size ≤ V.size) : ZB w (w'.setCells B k U.toList) B R (splice V k U) := by
  obtain ⟨g, u⟩ := row_stretch (U := U) k h.bm hk
  exact ⟨below_uf h.bel (Nat.le_refl _) (UF.of_upd u) (fun k e => by have := h.b; rcases e with rfl | rfl <;> omega), h.b, g, (u.block R (Array.getElem?_eq_some_iff.1 h.br).1 (fun e => h.b.2.2 e.symm) (fun e => h.b.2.2 e.symm)).trans h.br⟩
theorem ZB.fin (h : ZB w w' B R V) (hv : V.size = 45) : Below w.heap.size w (w'.setCells R 0 V.toList) ∧ (loadVar 64 ⟨R, 0, none⟩).run Tryz.prog (w'.setCells R 0 V.toList) = .ok (.agg V) (w'.setCells R 0 V.toList) := by
  obtain ⟨g, u⟩ := row_all (U := V) h.br (by rw [hv]; rfl)
  exact ⟨below_uf h.bel (Nat.le_refl _) (UF.of_upd u) (fun k e => by have := h.b; rcases e with rfl | rfl <;> omega), loadZ g hv⟩
end
theorem ZB.two (w : World) (V : Array Value) : ZB w ((w.alloc (.cells V 64)).alloc (.cells #[.int .i64 0, .int .i64 0, .int .i64 0, .int .i64 0, .int .u64 0, .int .i64 0, .int .i64 0, .int .i64 0, .int .i64 0, .int .i64 0, .int .u64 0, .int .u64 0, .bool false, .int .i64 0, .int .u64 0, .int .i64 0, .int .i64 0, .int .i64 0, .int .i64 0, .int .i64 0, .int .i64 0, .int .u64 0, .int .u64 0, .int .u64 0, .bool false, .int .i64 0, .int .i64 0, .int .i64 0, .slice none 0 0, .int .i64 0, .int .i64 0, .int .i64 0, .int .i64 0, .int .i64 0, .slice none 0 0, .int .u32 0, .int .u64 0, .int .u32 0, .int .i64 0, .bool false, .int .i64 0, .int .i64 0, .int .i64 0, .int .i64 0, .int .i64 0] 64)) w.heap.size (w.heap.size + 1) V := by
  have h1 := below_alloc0 (Below.refl w.heap.size w) (.cells V 64)
  have h2 := below_alloc0 h1 (.cells zero45 64)
  have e : (w.alloc (.cells V 64)).heap.size = w.heap.size + 1 := by simp
  have h3 := below_alloc0 (Below.refl (w.alloc (.cells V 64)).heap.size (w.alloc (.cells V 64))) (.cells zero45 64)
  have g := Go.heap_alloc_new w (.cells V 64)
  refine ⟨h2, ⟨Nat.le_refl _, by omega, by omega⟩, (h3.block _ (by omega)).trans g, ?_⟩
  have := Go.heap_alloc_new (w.alloc (.cells V 64)) (.cells zero45 64)
  rwa [e] at this
end Go.Proofs.YtpocihddecemfaaGreat

namespace Go.Proofs.YtpocihddecemfaaGreat
open Go.RowKit
set_option linter.unusedVariables false
set_option maxHeartbeats 1000000 in
theorem add_any {S D : Nat} {L : List Int} {c : Int} (at' v : Int) (w : World) (h : St w S D L c) (h0 : 0 ≤ c) (h1 : c ≤ 1000000000) :
    Calls Tryz.prog 101 #[ptr S, .int .i64 at', .int .u64 v] w fun e w' => e = .returned (.int .u64 (ldv L at')) ∧ Left S D (adv L at' v) (c + 1) w w' := by
  obtain ⟨b, hb⟩ : ∃ b, b = inB L at' := ⟨_, rfl⟩
  have H := Lib.hid h; clear h
  cases b
  · have e : ldv L at' = 0 := by unfold ldv; rw [if_neg (by rw [← hb]; simp)]
    have e2 : adv L at' v = L := by unfold adv ptv; rw [if_neg (by rw [← hb]; simp)]
    rw [e, e2]
    have HB := Lib.hid hb; clear hb e e2
    go_enter Tryz.func101, Tryz.ntmps101
    go_wp2_with (first
      | (go_at_call 58; (with_reducible refine (reaches_any _ _ H.out h0 h1).mono ?_); rintro r w1 ⟨rfl, hk⟩; rw [← HB.out])
      | fail)
    go_ret
    exact ⟨rfl, hk⟩
  · have hi := in_yes hb.symm
    obtain ⟨i, rfl⟩ : ∃ i : Nat, at' = (i : Int) := ⟨at'.toNat, by omega⟩
    have hil : i < L.length := by omega
    have e : ldv L i = L.getD i 0 := by unfold ldv; rw [if_pos hb.symm]; simp
    have e2 : adv L i v = L.set i (IntKind.u64.wrap (L.getD i 0 + v)) := by unfold adv ptv; rw [if_pos hb.symm, e]; simp
    rw [e, e2]
    obtain ⟨n, hn⟩ : ∃ n, n = L.length := ⟨_, rfl⟩
    rw [← hn] at hi hil
    have HN := Lib.hid hn
    have HB := Lib.hid hb
    have HI := Lib.hid hil
    obtain ⟨z, hz⟩ : ∃ z, z = L.getD i 0 := ⟨_, rfl⟩
    rw [← hz]
    obtain ⟨y, hy⟩ : ∃ y, y = IntKind.u64.wrap (z + v) := ⟨_, rfl⟩
    rw [← hy]
    have HZ := Lib.hid hz
    have hi0 : (0 : Int) ≤ (i : Int) := by omega
    have hi1 : (i : Int) < (n : Int) := by omega
    have hy' := hy.symm
    clear hb e e2 hn hz hi hil hy
    go_enter Tryz.func101, Tryz.ntmps101
    go_wp2_with (first
      | (go_at_call 58; (with_reducible refine (reaches_any _ _ H.out h0 h1).mono ?_); rintro r w1 ⟨rfl, hk⟩; rw [← HB.out]; have hd := hk.1.head; rw [← HN.out] at hd; have hcl := hk.1.row.cell i (by have := HN.out; have := HI.out; omega); rw [← HZ.out] at hcl; have hfr := hk.1.row.frozen i; have HK := Lib.hid (left_set hk i y); clear hk)
      | fail)
    go_ret
    exact ⟨rfl, HK.out⟩
def SomeSlI (P : Nat → Prop) (w : World) (n : Nat) (zs : List Int) (x : Int) (e : Ending) (w' : World) : Prop :=
  ∃ A cap, e = .returned (.tuple #[.slice A n cap, .int .u64 x]) ∧ ReadsW P w' A zs ∧ Below w.heap.size w w'
set_option maxHeartbeats 2000000 in
theorem radd_any (P : Nat → Prop) (A : Option Addr) (n cap : Nat) (zs : List Int) (at' v : Int) (w : World) (hn : n = zs.length) (hl : n ≤ 1000000) (h : ReadsW P w A zs) (hP : ∀ b, w.heap.size ≤ b → P b) :
    Calls Tryz.prog 49 #[.slice A n cap, .int .i64 at', .int .u64 v] w (SomeSlI P w n (adv zs at' v) (ldv zs at')) := by
  obtain ⟨z, hz⟩ : ∃ z, z = ldv zs at' := ⟨_, rfl⟩
  have he : adv zs at' v = ptv zs at' (IntKind.u64.wrap (z + v)) := by rw [hz]; rfl
  obtain ⟨y, hy⟩ : ∃ y, y = IntKind.u64.wrap (z + v) := ⟨_, rfl⟩
  rw [← hy] at he
  rw [he, ← hz]
  have H := Lib.hid h; have HN := Lib.hid hn; have HZ := Lib.hid hz
  have hy' := hy.symm
  clear h hn hz he hy
  go_enter Tryz.func49, Tryz.ntmps49
  go_wp2_with (first
    | (go_at_call 53; (with_reducible refine (rload_any A n cap zs _ _ HN.out H.out.reads).mono ?_); rintro r w1 ⟨rfl, rfl⟩; rw [← HZ.out])
    | (go_at_call 22; (with_reducible refine (rput_any P A n cap zs _ _ _ HN.out hl H.out hP).mono ?_); rintro r w1 ⟨A2, cap2, rfl, hk⟩; have HK := Lib.hid hk; clear hk)
    | fail)
  go_ret2
  exact ⟨A2, cap2, rfl, HK.out⟩
end Go.Proofs.YtpocihddecemfaaGreat

namespace Go.Proofs.YtpocihddecemfaaGreat
open Go.RowKit
set_option linter.unusedVariables false
set_option linter.unusedSimpArgs false
def QV (e : TypeId) (b : Nat) (w : World) (v : Value) (Q : List Value) : Prop :=
  ∃ off cap cur, v = .slice (some ⟨b, off, none⟩) Q.length cap ∧ w.heap[b]? = some (.cells cur e (0, 0)) ∧ off + cap ≤ cur.size ∧ Q.length ≤ cap ∧ cap ≤ maxLen ∧ ∀ j, j < Q.length → cur[off + j]? = some (Q.getD j undef)
def QVO (e : TypeId) (o : Option Nat) (w : World) (v : Value) (Q : List Value) : Prop :=
  match o with
  | none => v = .slice none 0 0 ∧ Q = []
  | some b => QV e b w v Q
section
variable {e t : TypeId} {b : Nat} {o : Option Nat} {w w' : World} {v : Value} {Q : List Value}
end
end Go.Proofs.YtpocihddecemfaaGreat
