/- A store that is made, and all its words in new memory, walked. The document's example, a choice of two words, and an access by its kind, walked. Two stores of the call's own, apart from each other; the words of a slice that came in, read later on. Which blocks may have changed. A row of values in memory that grows behind, and is cut in front and behind, whatever its elements' type. -/
import Derived.Test.YtnfbjebhpljikaaGreatJ1
import Derived.Test.YtnfbjebhpljikaaGreatLayMap
import Derived.Test.YtnfbjebhpljikaaGreatJ6
import Derived.ArgAppend
import Derived.Laws.Slices
namespace Go.Proofs.YtnfbjebhpljikaaGreat
open Go.RowKit
set_option linter.unusedVariables false
set_option maxRecDepth 100000

theorem made_words (n : Nat) : (madeCells (Value.int .u64 0).cells n).toList = List.replicate n (.int .u64 0) := by
  apply List.ext_getElem?
  intro j
  by_cases hj : j < n
  · simp [madeCells, hj, Value.cells, Nat.mod_one]
  · simp [madeCells, hj]
theorem make_words (n : Nat) (w : World) (hn : n ≤ 1000000) : (Instr.makeSlice 35 (.int .i64 (n : Int)) (.int .i64 (n : Int))).run Tryz.prog w = .ok (.slice (some ⟨w.heap.size, 0, none⟩) n n) (w.alloc (.cells ((List.replicate n (0 : Int)).map (Value.int .u64)).toArray 37)) := by
  obtain ⟨i0, hi, hz0, hz1, hz2⟩ := info_parts info34
  have := run_make w 35 37 i0 (.int .u64 0) Tryz.underlying35 hi hz0 .i64 .i64 n n (by omega) (Int.le_refl _) (by rw [hz2]; omega) (by omega)
  have e : madeCells (Value.int .u64 0).cells n = ((List.replicate n (0 : Int)).map (Value.int .u64)).toArray := by
    apply Array.ext'
    rw [made_words]; simp
  simpa [hz1, e] using this
theorem row_new (w : World) (L : List Int) : Row (w.alloc (.cells (L.map (Value.int .u64)).toArray 37)) w.heap.size L := by
  show (w.heap.push _)[w.heap.size]? = _
  simp
theorem splice_all {α : Type} (L cs : List α) (h : cs.length = L.length) : splice L 0 cs = cs := by
  simp [splice, h]

/-- Words in new memory. -/
def SomeRow (w : World) (L : List Int) (e : Ending) (w' : World) : Prop :=
  e = .returned (.slice (some ⟨w.heap.size, 0, none⟩) L.length L.length) ∧ Row w' w.heap.size L ∧ Below w.heap.size w w'

set_option maxHeartbeats 1000000 in
theorem copied_any (A : Option Addr) (n cap : Nat) (zs : List Int) (w : World) (hn : n = zs.length) (h : Reads .u64 w A zs) (hl : n ≤ 1000000) :
    Calls Tryz.prog 29 #[.slice A n cap] w (SomeRow w zs) := by
  have hmk := make_words n w hl
  have HRow := Lib.hid (row_new w (List.replicate n (0 : Int)))
  obtain ⟨V, hV⟩ : ∃ V, V = (List.replicate n (0 : Int)).map (Value.int .u64) := ⟨_, rfl⟩
  obtain ⟨X, hX⟩ : ∃ X, X = zs.map (Value.int .u64) := ⟨_, rfl⟩
  rw [← hV] at hmk
  obtain ⟨W1, hW1⟩ : ∃ W1, W1 = w.alloc (.cells V.toArray 37) := ⟨_, rfl⟩
  have hb1 : Below w.heap.size w W1 := by rw [hW1]; exact below_alloc0 (Below.refl _ _) _
  have hrow : W1.heap[w.heap.size]? = some (.cells V.toArray 37 (0, 0)) := by rw [hW1, hV]; exact HRow.out
  rw [← hW1] at hmk
  have hVl : V.length = n := by rw [hV]; simp
  have hXl : X.length = n := by rw [hX, hn]; simp
  have hXc : ∀ v ∈ X, v.oneCell' = true := by
    rw [hX]; intro v hv
    obtain ⟨x, _, rfl⟩ := List.mem_map.1 hv
    rfl
  have hsrc : 0 < X.length → (some (⟨w.heap.size, 0, none⟩ : Addr)) = some ⟨w.heap.size, 0, none⟩ ∧ ∃ ad, A = some ad ∧ ∀ j v, X[j]? = some v → W1.cell? (ad.add j) = some v := fun h0 => by
    refine ⟨rfl, ?_⟩
    obtain ⟨b, off, rfl, hlt, hc⟩ := (h.below hb1 (Nat.le_refl _)) (by omega)
    refine ⟨_, rfl, fun j v hj => ?_⟩
    have hjn : j < zs.length := by
      rcases Nat.lt_or_ge j zs.length with h' | h'
      · exact h'
      · rw [hX, List.getElem?_eq_none (by simpa using h')] at hj; cases hj
    rw [add_off, hc j hjn]
    rw [hX, map_get .u64 zs j hjn] at hj
    exact hj
  have HB1 := Lib.hid hb1; have HROW := Lib.hid hrow; have HVL := Lib.hid hVl; have HXL := Lib.hid hXl; have HXC := Lib.hid hXc; have HS := Lib.hid hsrc; have HN := Lib.hid hn; have HX := Lib.hid hX
  clear hb1 hrow hVl hXl hXc hsrc hn hX h hW1 hV
  go_enter Tryz.func29, Tryz.ntmps29
  go_wp2_with (first
    | (with_reducible refine wpList_copy_splice rfl _ _ 35 35 rfl 37 Tryz.underlying35 (by kernel_rfl) (some ⟨w.heap.size, 0, none⟩) A n n n cap rfl rfl w.heap.size 0 V 37 HROW.out X (by rw [HXL.out]; simp) HS.out (by have := HVL.out; have := HXL.out; omega) HXC.out w.heap.size w HB1.out (Nat.le_refl _) ?_; intro w2 hg2 hb2)
    | fail)
  go_ret
  refine ⟨?_, ?_, hb2⟩
  · rw [HN.out]; rfl
  · have := hg2.out
    rw [splice_all V X (by rw [HXL.out, HVL.out]), HX.out] at this
    exact this

/-- A store that has been made, of these words. -/
def SomeNew (w : World) (L : List Int) (e : Ending) (w' : World) : Prop :=
  ∃ S D, e = .returned (ptr S) ∧ w.heap.size ≤ S ∧ w.heap.size ≤ D ∧ St w' S D L 0 ∧ Below w.heap.size w w'
theorem new_st {w w1 : World} {L : List Int} {n : Nat} (hn : n = L.length) (hr : Row w1 w.heap.size L) (hb : Below w.heap.size w w1) :
    SomeNew w L (.returned (ptr w1.heap.size)) (w1.alloc (.cells #[.slice (some ⟨w.heap.size, 0, none⟩) n n, .int .i64 0] 69)) := by
  have hlt := hr.lt
  refine ⟨w1.heap.size, w.heap.size, rfl, hb.size, Nat.le_refl _, ⟨by omega, ?_, ?_⟩, below_alloc0 hb _⟩
  · rw [hn]
    show (w1.heap.push _)[w1.heap.size]? = _
    simp
  · exact (Below.heap_alloc _ _ _ hlt).trans hr

set_option maxHeartbeats 1000000 in
theorem new_any (A : Option Addr) (n cap : Nat) (zs : List Int) (w : World) (hn : n = zs.length) (h : Reads .u64 w A zs) (hl : n ≤ 1000000) :
    Calls Tryz.prog 10 #[.slice A n cap] w (SomeNew w zs) := by
  have H := Lib.hid h; have HN := Lib.hid hn
  clear h hn
  go_enter Tryz.func10, Tryz.ntmps10
  go_wp2_with (first
    | (go_at_call 29; (with_reducible refine (copied_any A n cap zs _ HN.out H.out hl).mono ?_); rintro r w1 ⟨rfl, hr, hb⟩; rw [← HN.out]; have HK := Lib.hid (new_st HN.out hr hb); clear hr hb)
    | fail)
  go_ret
  exact HK.out

end Go.Proofs.YtnfbjebhpljikaaGreat

namespace Go.Proofs.YtnfbjebhpljikaaGreat
open Go.RowKit
set_option linter.unusedVariables false

/-- A store of the call's own. -/
def Own (B S D : Nat) (w0 w : World) (L : List Int) (c : Int) : Prop := B ≤ S ∧ B ≤ D ∧ B ≤ w0.heap.size ∧ St w S D L c ∧ Below B w0 w
theorem Own.of_new {w0 w w' : World} {B S D : Nat} {L : List Int} (hb : Below B w0 w) (hB : B ≤ w0.heap.size) (hS : w.heap.size ≤ S) (hD : w.heap.size ≤ D) (h : St w' S D L 0) (hb' : Below w.heap.size w w') : Own B S D w0 w' L 0 := by
  have := hb.size
  exact ⟨by omega, by omega, hB, h, below_step hb (by omega) hb'⟩
theorem Own.left {w0 w w' : World} {B S D : Nat} {L L' : List Int} {c c' : Int} (h : Own B S D w0 w L c) (k : Left S D L' c' w w') : Own B S D w0 w' L' c' :=
  ⟨h.1, h.2.1, h.2.2.1, k.1, below_upd h.2.2.2.2 h.2.2.1 k.2 h.1 h.2.1⟩
theorem Own.step {w0 w w' : World} {B S D : Nat} {L : List Int} {c : Int} (h : Own B S D w0 w L c) (k : Below w.heap.size w w') : Own B S D w0 w' L c :=
  ⟨h.1, h.2.1, h.2.2.1, h.2.2.2.1.below k, below_step h.2.2.2.2 (Nat.le_trans h.2.2.1 h.2.2.2.2.size) k⟩
theorem Own.st {w0 w : World} {B S D : Nat} {L : List Int} {c : Int} (h : Own B S D w0 w L c) : St w S D L c := h.2.2.2.1
theorem Own.bel {w0 w : World} {B S D : Nat} {L : List Int} {c : Int} (h : Own B S D w0 w L c) : Below B w0 w := h.2.2.2.2

theorem reads_lit2 (w : World) (x y : Int) : Reads .u64 (w.alloc (.cells #[.int .u64 x, .int .u64 y] 37)) (some ⟨w.heap.size, 0, none⟩) [x, y] := fun _ =>
  ⟨w.heap.size, 0, rfl, by simp, fun j hj => by
    rw [Nat.zero_add, World.cell?_alloc_at _ _ _ _ rfl]
    match j, hj with
    | 0, _ => rfl
    | 1, _ => rfl⟩
theorem reads_lit1 (w : World) (x : Int) : Reads .u64 (w.alloc (.cells #[.int .u64 x] 37)) (some ⟨w.heap.size, 0, none⟩) [x] := fun _ =>
  ⟨w.heap.size, 0, rfl, by simp, fun j hj => by
    rw [Nat.zero_add, World.cell?_alloc_at _ _ _ _ rfl]
    match j, hj with
    | 0, _ => rfl⟩

end Go.Proofs.YtnfbjebhpljikaaGreat

namespace Go.Proofs.YtnfbjebhpljikaaGreat
open Go.RowKit
set_option linter.unusedVariables false

/-- Two stores of the call's own. -/
structure Two (B S D E F : Nat) (w0 w : World) (L : List Int) (c : Int) (M : List Int) (d : Int) : Prop where
  one : Own B S D w0 w L c
  two : Own B E F w0 w M d
  n1 : S ≠ E
  n2 : S ≠ F
  n3 : D ≠ E
  n4 : D ≠ F
theorem Two.of_new {B S D E F : Nat} {w0 w w' : World} {L M : List Int} {c : Int} (h : Own B S D w0 w L c) (hE : w.heap.size ≤ E) (hF : w.heap.size ≤ F) (hs : St w' E F M 0) (hb : Below w.heap.size w w') : Two B S D E F w0 w' L c M 0 := by
  have h1 := h.st.ltS
  have h2 := h.st.row.lt
  exact ⟨h.step hb, Own.of_new h.bel h.2.2.1 hE hF hs hb, by omega, by omega, by omega, by omega⟩
theorem Two.left1 {B S D E F : Nat} {w0 w w' : World} {L L' M : List Int} {c c' d : Int} (h : Two B S D E F w0 w L c M d) (k : Left S D L' c' w w') : Two B S D E F w0 w' L' c' M d :=
  ⟨h.one.left k, ⟨h.two.1, h.two.2.1, h.two.2.2.1, h.two.st.upd k.2 (Ne.symm h.n1) (Ne.symm h.n3) (Ne.symm h.n2) (Ne.symm h.n4), (h.one.left k).bel⟩, h.n1, h.n2, h.n3, h.n4⟩
theorem Two.left2 {B S D E F : Nat} {w0 w w' : World} {L M M' : List Int} {c d d' : Int} (h : Two B S D E F w0 w L c M d) (k : Left E F M' d' w w') : Two B S D E F w0 w' L c M' d' :=
  ⟨⟨h.one.1, h.one.2.1, h.one.2.2.1, h.one.st.upd k.2 h.n1 h.n2 h.n3 h.n4, (h.two.left k).bel⟩, h.two.left k, h.n1, h.n2, h.n3, h.n4⟩
theorem Two.step {B S D E F : Nat} {w0 w w' : World} {L M : List Int} {c d : Int} (h : Two B S D E F w0 w L c M d) (k : Below w.heap.size w w') : Two B S D E F w0 w' L c M d :=
  ⟨h.one.step k, h.two.step k, h.n1, h.n2, h.n3, h.n4⟩
theorem Two.st1 {B S D E F : Nat} {w0 w : World} {L M : List Int} {c d : Int} (h : Two B S D E F w0 w L c M d) : St w S D L c := h.one.st
theorem Two.st2 {B S D E F : Nat} {w0 w : World} {L M : List Int} {c d : Int} (h : Two B S D E F w0 w L c M d) : St w E F M d := h.two.st
theorem Two.bel {B S D E F : Nat} {w0 w : World} {L M : List Int} {c d : Int} (h : Two B S D E F w0 w L c M d) : Below B w0 w := h.one.bel
end Go.Proofs.YtnfbjebhpljikaaGreat

namespace Go.Proofs.YtnfbjebhpljikaaGreat
open Go.RowKit
set_option linter.unusedVariables false
set_option linter.unusedSimpArgs false

/-- Blocks of F alone may have changed. -/
structure UF (F : Nat → Prop) (w w' : World) : Prop where
  os : w'.os = w.os
  tape : w'.tape = w.tape
  output : w'.output = w.output
  size : w.heap.size ≤ w'.heap.size
  block : ∀ k, k < w.heap.size → ¬ F k → w'.heap[k]? = w.heap[k]?
theorem UF.refl (F : Nat → Prop) (w : World) : UF F w w := ⟨rfl, rfl, rfl, Nat.le_refl _, fun _ _ _ => rfl⟩
theorem UF.trans {F G H : Nat → Prop} {a b c : World} (h : UF F a b) (k : UF G b c) (hF : ∀ x, F x → H x) (hG : ∀ x, x < a.heap.size → G x → H x) : UF H a c :=
  ⟨k.os.trans h.os, k.tape.trans h.tape, k.output.trans h.output, Nat.le_trans h.size k.size, fun i hi hn => (k.block i (Nat.lt_of_lt_of_le hi h.size) (fun g => hn (hG i hi g))).trans (h.block i hi (fun f => hn (hF i f)))⟩
theorem UF.mono {F H : Nat → Prop} {a b : World} (h : UF F a b) (hF : ∀ x, x < a.heap.size → F x → H x) : UF H a b :=
  ⟨h.os, h.tape, h.output, h.size, fun i hi hn => h.block i hi (fun f => hn (hF i hi f))⟩
theorem UF.of_below {F : Nat → Prop} {w w' : World} (h : Below w.heap.size w w') : UF F w w' := ⟨h.os, h.tape, h.output, h.size, fun k hk _ => h.block k hk⟩
theorem UF.of_upd {S D : Nat} {w w' : World} (h : Upd S D w w') : UF (fun k => k = S ∨ k = D) w w' := ⟨h.os, h.tape, h.output, h.size, fun k hk hn => h.block k hk (fun e => hn (.inl e)) (fun e => hn (.inr e))⟩
theorem UF.set (w : World) (B i : Nat) (v : Value) : UF (fun k => k = B) w (w.setCell ⟨B, i, none⟩ v) := ⟨rfl, rfl, rfl, by simp, fun k _ hn => heap_setCell_other w ⟨B, i, none⟩ k v hn⟩
theorem below_uf {B : Nat} {F : Nat → Prop} {w0 w w' : World} (h : Below B w0 w) (hB : B ≤ w0.heap.size) (u : UF F w w') (hF : ∀ k, F k → B ≤ k) : Below B w0 w' :=
  h.trans ⟨u.os, u.tape, u.output, u.size, fun k hk => u.block k (Nat.lt_of_lt_of_le hk (Nat.le_trans hB h.size)) (fun f => by have := hF k f; omega)⟩
theorem IsMap_same {w w' : World} {N : Nat} {c : Lay.Cfg} (h : Lay.IsMap w N c) (hs : w.heap.size ≤ w'.heap.size) (hb : w'.heap[N]? = w.heap[N]?) : Lay.IsMap w' N c :=
  ⟨Nat.lt_of_lt_of_le h.1 hs, fun i hi => (World.cell?_of_block (w := w) (a := ⟨N, i, none⟩) hb).trans (h.2 i hi)⟩
theorem St_same {w w' : World} {S D : Nat} {L : List Int} {c : Int} (h : St w S D L c) (h1 : w'.heap[S]? = w.heap[S]?) (h2 : w'.heap[D]? = w.heap[D]?) : St w' S D L c :=
  ⟨h.ne, h1.trans h.top, h2.trans h.row⟩

end Go.Proofs.YtnfbjebhpljikaaGreat

namespace Go.Proofs.YtnfbjebhpljikaaGreat
open Go.RowKit
set_option linter.unusedVariables false
set_option linter.unusedSimpArgs false

/-- What an element's type must be: one cell. -/
structure ElT (t e : TypeId) (z : Value) (by' : Nat) : Prop where
  u : Tryz.prog.underlying t = some (.slice e)
  i : (Tryz.prog.info? e).map (fun i => (i.zero, i.size, i.bytes)) = some (some z, 1, by')
  z : z.cells.size = 1
  b : by' ≤ 64
/-- A row in block b. -/
def QV (e : TypeId) (b : Nat) (w : World) (v : Value) (Q : List Value) : Prop :=
  ∃ off cap cur, v = .slice (some ⟨b, off, none⟩) Q.length cap ∧ w.heap[b]? = some (.cells cur e (0, 0)) ∧ off + cap ≤ cur.size ∧ Q.length ≤ cap ∧ cap ≤ maxLen ∧ ∀ j, j < Q.length → cur[off + j]? = some (Q.getD j undef)
/-- A row that is nil yet, or in a block. -/
def QVO (e : TypeId) (o : Option Nat) (w : World) (v : Value) (Q : List Value) : Prop :=
  match o with
  | none => v = .slice none 0 0 ∧ Q = []
  | some b => QV e b w v Q
section
variable {e t : TypeId} {b : Nat} {o : Option Nat} {w w' : World} {v : Value} {Q : List Value}
theorem QV.lt (h : QV e b w v Q) : b < w.heap.size := by obtain ⟨_, _, _, _, h, _⟩ := h; exact (Array.getElem?_eq_some_iff.1 h).1
theorem QV.same (h : QV e b w v Q) (k : w'.heap[b]? = w.heap[b]?) : QV e b w' v Q := by
  obtain ⟨off, cap, cur, h1, h2, h3⟩ := h
  exact ⟨off, cap, cur, h1, k.trans h2, h3⟩
theorem QV.below (h : QV e b w v Q) (hb : Below w.heap.size w w') : QV e b w' v Q := h.same (hb.block b h.lt)
theorem QVO.same (h : QVO e o w v Q) (k : ∀ b, o = some b → w'.heap[b]? = w.heap[b]?) : QVO e o w' v Q := by
  cases o with
  | none => exact h
  | some b => exact QV.same h (k b rfl)
theorem QVO.lt (h : QVO e o w v Q) : ∀ b, o = some b → b < w.heap.size := by
  intro b e; subst e; exact QV.lt h
theorem QVO.below (h : QVO e o w v Q) (hb : Below w.heap.size w w') : QVO e o w' v Q := h.same fun b e => hb.block b (h.lt b e)
theorem QVO.len (h : QVO e o w v Q) : ∃ A c, v = .slice A Q.length c := by
  cases o with
  | none => obtain ⟨h, rfl⟩ := h; exact ⟨_, _, h⟩
  | some b => obtain ⟨_, _, _, h, _⟩ := h; exact ⟨_, _, h⟩
theorem QV.cell (h : QV e b w v Q) : ∃ off cap, v = .slice (some ⟨b, off, none⟩) Q.length cap ∧ Q.length ≤ cap ∧ cap ≤ maxLen ∧ ∀ j, j < Q.length → w.cell? ⟨b, off + j, none⟩ = some (Q.getD j undef) := by
  obtain ⟨off, cap, cur, h1, h3, h4, h5, h6, h7⟩ := h
  refine ⟨off, cap, h1, h5, h6, fun j hj => ?_⟩
  simp only [World.cell?, h3]
  simpa using h7 j hj
theorem QV.fro (h : QV e b w v Q) (j : Nat) : w.frozen? ⟨b, j, none⟩ = false := by
  obtain ⟨off, cap, cur, h1, h3, _⟩ := h
  exact frozen_of_row w b j _ _ h3
/-- Without the last one; without the first one. -/
theorem QV.init (h : QV e b w v Q) (hQ : 0 < Q.length) : ∃ off cap, v = .slice (some ⟨b, off, none⟩) Q.length cap ∧ Q.length ≤ cap ∧ cap ≤ maxLen ∧ (∀ j, j < Q.length → w.cell? ⟨b, off + j, none⟩ = some (Q.getD j undef)) ∧
    QV e b w (.slice (some ⟨b, off, none⟩) (Q.length - 1) cap) Q.dropLast ∧ QV e b w (.slice (some ⟨b, if cap = 1 then off else off + 1, none⟩) (Q.length - 1) (cap - 1)) Q.tail := by
  obtain ⟨off, cap, cur, h1, h3, h4, h5, h6, h7⟩ := h
  refine ⟨off, cap, h1, h5, h6, fun j hj => ?_, ⟨off, cap, cur, by simp, h3, h4, by simp; omega, h6, fun j hj => ?_⟩, ⟨if cap = 1 then off else off + 1, cap - 1, cur, by simp, h3, ?_, by simp; omega, by omega, fun j hj => ?_⟩⟩
  · simp only [World.cell?, h3]
    simpa using h7 j hj
  · simp at hj
    rw [h7 j (by omega)]
    have e : Q.dropLast.getD j undef = Q.getD j undef := by
      rw [List.getD, List.getD, List.getElem?_dropLast, if_pos hj]
    rw [e]
  · split <;> omega
  · simp at hj
    rw [if_neg (by omega), show off + 1 + j = off + (j + 1) by omega, h7 (j + 1) (by omega)]
    simp [List.getD, List.getElem?_tail]
theorem QVO.has (h : QVO e o w v Q) (hQ : 0 < Q.length) : ∃ b, o = some b ∧ QV e b w v Q := by
  cases o with
  | none => obtain ⟨_, rfl⟩ := h; simp at hQ
  | some b => exact ⟨b, rfl, h⟩
/-- One element changes. -/
theorem QV.set (h : QV e b w v Q) {off cap : Nat} (hv : v = .slice (some ⟨b, off, none⟩) Q.length cap) (i : Nat) (hi : i < Q.length) (x : Value) : QV e b (w.setCell ⟨b, off + i, none⟩ x) v (Q.set i x) := by
  obtain ⟨off', cap', cur, h1, h3, h4, h5, h6, h7⟩ := h
  rw [hv] at h1; cases h1
  refine ⟨off, cap, cur.setIfInBounds (off + i) x, by rw [hv]; simp, heap_setCell_same w b _ _ e _ h3, by simpa using h4, by simpa using h5, h6, fun j hj => ?_⟩
  simp at hj
  by_cases hj2 : j = i
  · subst hj2
    rw [Array.getElem?_setIfInBounds_self_of_lt (by omega)]
    simp [List.getD, hi]
  · rw [Array.getElem?_setIfInBounds_ne (by omega), h7 j hj]
    simp [List.getD, List.getElem?_set, Ne.symm hj2]
theorem qv_of_own {B n : Nat} (h : w'.ownsRow B e 1 v n Q) (hn : n = Q.length) (h0 : 0 < n) : ∃ b, B ≤ b ∧ QV e b w' v Q := by
  obtain ⟨hl, ⟨rfl, h⟩ | ⟨g, cap, cur, rfl, hg, hh, hc, hm, hs, ht⟩⟩ := h
  · omega
  · subst hn
    refine ⟨g, hg, 0, cap, cur, rfl, hh, by omega, hc, hm, fun j hj => ?_⟩
    have e : (cur.toList.take (Q.length * 1))[j]? = Q[j]? := congrArg (fun l => l[j]?) ht
    rw [List.getElem?_take, if_pos (by omega), List.getElem?_eq_getElem hj] at e
    simpa [List.getD, List.getElem?_eq_getElem hj] using e
theorem setCells_one (w : World) (b o : Nat) (v : Value) : w.setCells b o [v] = w.setCell ⟨b, o, none⟩ v := rfl

/-- What an append leaves: in the same block, or in a new one. -/
def GrewV (e : TypeId) (o : Option Nat) (w w' : World) (v' : Value) (Q : List Value) : Prop := ∃ b, (o = some b ∨ w.heap.size ≤ b) ∧ QV e b w' v' Q ∧ Upd b b w w'
/-- One value comes behind. -/
theorem run_append_v {x : Nat} {z y : Value} {by' : Nat} (E : ElT t e z by') (ty : TypeId) (h : QVO e o w v Q) (hx : w.cell? ⟨x, 0, none⟩ = some y) (hy : y.oneCell' = true) (hq : Q.length ≤ 100000) :
    ∃ v' w', (Builtin.append_ #[t, t] ty #[v, .slice (some ⟨x, 0, none⟩) 1 1]).run Tryz.prog w = .ok v' w' ∧ GrewV e o w w' v' (Q ++ [y]) := by
  obtain ⟨i0, hi0, hz0, hz1, hz2⟩ := info_parts E.i
  have hby := E.b
  have hnews : ∀ (j : Nat) (u : Value), ([y] : List Value)[j]? = some u → w.cell? ((⟨x, 0, none⟩ : Addr).add j) = some u := by
    intro j u hj
    match j, hj with
    | 0, hj =>
      simp at hj
      subst hj
      rw [add_off]; exact hx
  have h1 : ∀ u ∈ ([y] : List Value), u.oneCell' = true := by
    intro u hu; rw [List.mem_singleton.1 hu]; exact hy
  have fin : ∀ v' w', w'.ownsRow w.heap.size e 1 v' (Q.length + 1) (Q ++ [y]) → w.grownBy w' none → GrewV e o w w' v' (Q ++ [y]) := by
    intro v' w' ho hg
    obtain ⟨b, hb, hqb⟩ := qv_of_own (n := Q.length + 1) (Q := Q ++ [y]) ho (by simp) (by omega)
    exact ⟨b, .inr hb, hqb, hg.os, hg.tape, hg.output, hg.size, fun k hk _ _ => hg.block k hk (by simp)⟩
  have hmul : (Q.length + 1) * by' ≤ 140737488355328 := by have := Nat.mul_le_mul (show Q.length + 1 ≤ 100001 by omega) hby; omega
  cases o with
  | none =>
    obtain ⟨rfl, rfl⟩ := h
    obtain ⟨v', w', hr, ho, hg, -⟩ := run_append_own (P := Tryz.prog) w w.heap.size t ty e i0 _ 1 by' E.u hi0 hz0 hz1 hz2 E.z (by decide) (.slice none 0 0) 0 [] (World.ownsRow_nil _ _ _ _) ⟨x, 0, none⟩ 1 1 [y] rfl hnews h1 (by unfold maxLen; omega) (by simpa using hmul) (Nat.le_refl _)
    exact ⟨v', w', hr, fin v' w' ho hg⟩
  | some b =>
    obtain ⟨off, cap, cur, rfl, hh, hoc, hqc, hcm, hcell⟩ := h
    have olds : ∀ (j : Nat) (u : Value), Q[j]? = some u → w.cell? ((⟨b, off, none⟩ : Addr).add j) = some u := by
      intro j u hj
      rcases Nat.lt_or_ge j Q.length with hj' | hj'
      · rw [add_off]
        simp only [World.cell?, hh]
        have := hcell j hj'
        rw [List.getD, hj] at this; simpa using this
      · rw [List.getElem?_eq_none hj'] at hj; cases hj
    by_cases hroom : Q.length + 1 ≤ cap
    · have hlt : off + Q.length < cur.size := by omega
      have hr := run_append_room_cells (P := Tryz.prog) w t ty e i0 E.u hi0 b off Q.length cap ⟨x, 0, none⟩ 1 1 [y] (by rw [hz1]; rfl) hnews h1 hroom (fun j hj => by
        have : j = 0 := by simp at hj; omega
        subst this
        simp only [World.cell?, hh, hz1]
        simp [hlt]) (fun j hj => frozen_of_row w b _ _ _ hh)
      rw [hz1, Nat.mul_one, setCells_one] at hr
      refine ⟨_, _, hr, b, .inl rfl, ⟨off, cap, cur.setIfInBounds (off + Q.length) y, by simp, heap_setCell_same w b _ _ e _ hh, by simpa using hoc, by simp; omega, hcm, fun j hj => ?_⟩, rfl, rfl, rfl, by simp, fun k hk h1 _ => heap_setCell_other w ⟨b, off + Q.length, none⟩ k _ h1⟩
      simp at hj
      by_cases hj2 : j = Q.length
      · subst hj2
        simp [List.getD, hlt]
      · have hj3 : j < Q.length := by omega
        rw [Array.getElem?_setIfInBounds_ne (by omega), hcell j hj3]
        simp [List.getD, List.getElem?_append_left hj3]
    · obtain ⟨v', w', hr, ho, hg⟩ := run_append_arg_grows (P := Tryz.prog) w t ty e i0 _ 1 by' E.u hi0 hz0 hz1 hz2 E.z (by decide) ⟨b, off, none⟩ Q.length cap Q (by simp) olds ⟨x, 0, none⟩ 1 1 [y] rfl hnews (by omega) (by unfold maxLen; omega) hmul
      exact ⟨v', w', hr, fin v' w' ho hg⟩
theorem append_v {x : Nat} {o' : Option Nat} {ops : Array Oper} {rest : List Oper} {o : Oper} {a : Act} {R : Exit → Act → World → Prop} (hg : o.guard = none) (s y : Operand) {z u : Value} {by' : Nat} (E : ElT t e z by')
    (ho : o.op = .call { callee := .builtin .append, args := #[s, y], argTypes := #[t, t] }) (h : QVO e o' w v Q) (hx : w.cell? ⟨x, 0, none⟩ = some u) (hu : u.oneCell' = true) (hq : Q.length ≤ 100000)
    (hs : a.eval s = v) (hy : a.eval y = .slice (some ⟨x, 0, none⟩) 1 1)
    (k : ∀ v' w', GrewV e o' w w' v' (Q ++ [u]) → wpList Tryz.prog ops R rest (a.put o.dst v') w') : wpList Tryz.prog ops R (o :: rest) a w := by
  refine wpList_plain hg fun K hK => ?_
  obtain ⟨v', w', hr, h3⟩ := run_append_v E o.type h hx hu hq
  unfold Oper.wp execOp
  simp only [ho, resolve, invoke, builtin, Sem.run_bind, Sem.run_pure, Result.andThen_ok, List.map_toArray, List.map_cons, List.map_nil, hs, hy, hr]
  exact hK _ _ (k v' w' h3)
set_option maxRecDepth 100000 in
theorem slice_dropV (ht : Tryz.prog.underlying t = some (.slice e)) (he : Tryz.prog.elem t = e) (hs : ∀ w, (sizeOf e).run Tryz.prog w = .ok 1 w) (b off p q : Nat) (h : p + 1 ≤ q) (w : World) : (Instr.slice t (.slice (some ⟨b, off, none⟩) (p + 1) q) none (some (.int .i64 (p : Int))) none).run Tryz.prog w = .ok (.slice (some ⟨b, off, none⟩) p q) w := by
  have e := run_slice_h (P := Tryz.prog) w t (some ⟨b, off, none⟩) (p + 1) q (by rw [he]; exact ht) .i64 (p : Int) (by omega) (by omega)
  rw [e, he, hs]
  have hq : ¬ q = 0 := by omega
  simp [sliced, Result.andThen, hq, Addr.add]
set_option maxRecDepth 100000 in
theorem slice_tailV (ht : Tryz.prog.underlying t = some (.slice e)) (he : Tryz.prog.elem t = e) (hs : ∀ w, (sizeOf e).run Tryz.prog w = .ok 1 w) (b off n c : Nat) (h : 0 < n) (hc : n ≤ c) (w : World) : (Instr.slice t (.slice (some ⟨b, off, none⟩) n c) (some (.int .i64 1)) none none).run Tryz.prog w = .ok (.slice (some ⟨b, if c = 1 then off else off + 1, none⟩) (n - 1) (c - 1)) w := by
  have e := run_slice_l (P := Tryz.prog) w t (some ⟨b, off, none⟩) n c (by rw [he]; exact ht) .i64 1 (by omega) (by omega)
  rw [e, he, hs]
  by_cases hq : c = 1
  · simp [sliced, Result.andThen, hq, Addr.add]
  · simp [sliced, Result.andThen, hq, Addr.add]
end
end Go.Proofs.YtnfbjebhpljikaaGreat
