/- A store that is made, and all its words in new memory, walked. The document's example, a choice of two words, and an access by its kind, walked. Two stores of the call's own, apart from each other; the words of a slice that came in, read later on. Words that are added to, by the program and by the document; how many accesses there were; walked. -/
import Derived.Test.YtbpkcoemehmpbaaGreatJ2
import Derived.Test.YtbpkcoemehmpbaaGreatRef
namespace Go.Proofs.YtbpkcoemehmpbaaGreat
open Go.RowKit
set_option linter.unusedVariables false
set_option maxRecDepth 100000

theorem made_words (n : Nat) : (madeCells (Value.int .u64 0).cells n).toList = List.replicate n (.int .u64 0) := by
  apply List.ext_getElem?
  intro j
  by_cases hj : j < n
  · simp [madeCells, hj, Value.cells, Nat.mod_one]
  · simp [madeCells, hj]
theorem make_words (n : Nat) (w : World) (hn : n ≤ 1000000) : (Instr.makeSlice 42 (.int .i64 (n : Int)) (.int .i64 (n : Int))).run Tryz.prog w = .ok (.slice (some ⟨w.heap.size, 0, none⟩) n n) (w.alloc (.cells ((List.replicate n (0 : Int)).map (Value.int .u64)).toArray 25)) := by
  obtain ⟨i0, hi, hz0, hz1, hz2⟩ := info_parts info34
  have := run_make w 42 25 i0 (.int .u64 0) Tryz.underlying42 hi hz0 .i64 .i64 n n (by omega) (Int.le_refl _) (by rw [hz2]; omega) (by omega)
  have e : madeCells (Value.int .u64 0).cells n = ((List.replicate n (0 : Int)).map (Value.int .u64)).toArray := by
    apply Array.ext'
    rw [made_words]; simp
  simpa [hz1, e] using this
theorem row_new (w : World) (L : List Int) : Row (w.alloc (.cells (L.map (Value.int .u64)).toArray 25)) w.heap.size L := by
  show (w.heap.push _)[w.heap.size]? = _
  simp
theorem splice_all {α : Type} (L cs : List α) (h : cs.length = L.length) : splice L 0 cs = cs := by
  simp [splice, h]

/-- Words in new memory. -/
def SomeRow (w : World) (L : List Int) (e : Ending) (w' : World) : Prop :=
  e = .returned (.slice (some ⟨w.heap.size, 0, none⟩) L.length L.length) ∧ Row w' w.heap.size L ∧ Below w.heap.size w w'

set_option maxHeartbeats 1000000 in
theorem copied_any (A : Option Addr) (n cap : Nat) (zs : List Int) (w : World) (hn : n = zs.length) (h : Reads .u64 w A zs) (hl : n ≤ 1000000) :
    Calls Tryz.prog 38 #[.slice A n cap] w (SomeRow w zs) := by
  have hmk := make_words n w hl
  have HRow := Lib.hid (row_new w (List.replicate n (0 : Int)))
  obtain ⟨V, hV⟩ : ∃ V, V = (List.replicate n (0 : Int)).map (Value.int .u64) := ⟨_, rfl⟩
  obtain ⟨X, hX⟩ : ∃ X, X = zs.map (Value.int .u64) := ⟨_, rfl⟩
  rw [← hV] at hmk
  obtain ⟨W1, hW1⟩ : ∃ W1, W1 = w.alloc (.cells V.toArray 25) := ⟨_, rfl⟩
  have hb1 : Below w.heap.size w W1 := by rw [hW1]; exact below_alloc0 (Below.refl _ _) _
  have hrow : W1.heap[w.heap.size]? = some (.cells V.toArray 25 (0, 0)) := by rw [hW1, hV]; exact HRow.out
  rw [← hW1] at hmk
  have hVl : V.length = n := by rw [hV]; simp
  have hXl : X.length = n := by rw [hX, hn]; simp
  have hXc : ∀ v ∈ X, v.oneCell' = true := by
    rw [hX]; intro v hv
    obtain ⟨x, _, rfl⟩ := List.mem_map.1 hv
    rfl
  have hsrc : 0 < X.length → (some (⟨w.heap.size, 0, none⟩ : Addr)) = some ⟨w.heap.size, 0, none⟩ ∧ ∃ ad, A = some ad ∧ ∀ j v, X[j]? = some v → W1.cell? (ad.add j) = some v := fun h0 => by
    refine ⟨rfl, ?_⟩
    obtain ⟨b, off, rfl, hlt, hc⟩ := (h.below hb1 (Nat.le_refl _)) (by omega)
    refine ⟨_, rfl, fun j v hj => ?_⟩
    have hjn : j < zs.length := by
      rcases Nat.lt_or_ge j zs.length with h' | h'
      · exact h'
      · rw [hX, List.getElem?_eq_none (by simpa using h')] at hj; cases hj
    rw [add_off, hc j hjn]
    rw [hX, map_get .u64 zs j hjn] at hj
    exact hj
  have HB1 := Lib.hid hb1; have HROW := Lib.hid hrow; have HVL := Lib.hid hVl; have HXL := Lib.hid hXl; have HXC := Lib.hid hXc; have HS := Lib.hid hsrc; have HN := Lib.hid hn; have HX := Lib.hid hX
  clear hb1 hrow hVl hXl hXc hsrc hn hX h hW1 hV
  go_enter Tryz.func38, Tryz.ntmps38
  go_wp2_with (first
    | (with_reducible refine wpList_copy_splice rfl _ _ 42 42 rfl 25 Tryz.underlying42 (by kernel_rfl) (some ⟨w.heap.size, 0, none⟩) A n n n cap rfl rfl w.heap.size 0 V 25 HROW.out X (by rw [HXL.out]; simp) HS.out (by have := HVL.out; have := HXL.out; omega) HXC.out w.heap.size w HB1.out (Nat.le_refl _) ?_; intro w2 hg2 hb2)
    | fail)
  go_ret
  refine ⟨?_, ?_, hb2⟩
  · rw [HN.out]; rfl
  · have := hg2.out
    rw [splice_all V X (by rw [HXL.out, HVL.out]), HX.out] at this
    exact this

/-- A store that has been made, of these words. -/
def SomeNew (w : World) (L : List Int) (e : Ending) (w' : World) : Prop :=
  ∃ S D, e = .returned (ptr S) ∧ w.heap.size ≤ S ∧ w.heap.size ≤ D ∧ St w' S D L 0 ∧ Below w.heap.size w w'
theorem new_st {w w1 : World} {L : List Int} {n : Nat} (hn : n = L.length) (hr : Row w1 w.heap.size L) (hb : Below w.heap.size w w1) :
    SomeNew w L (.returned (ptr w1.heap.size)) (w1.alloc (.cells #[.slice (some ⟨w.heap.size, 0, none⟩) n n, .int .i64 0] 87)) := by
  have hlt := hr.lt
  refine ⟨w1.heap.size, w.heap.size, rfl, hb.size, Nat.le_refl _, ⟨by omega, ?_, ?_⟩, below_alloc0 hb _⟩
  · rw [hn]
    show (w1.heap.push _)[w1.heap.size]? = _
    simp
  · exact (Below.heap_alloc _ _ _ hlt).trans hr

set_option maxHeartbeats 1000000 in
theorem new_any (A : Option Addr) (n cap : Nat) (zs : List Int) (w : World) (hn : n = zs.length) (h : Reads .u64 w A zs) (hl : n ≤ 1000000) :
    Calls Tryz.prog 21 #[.slice A n cap] w (SomeNew w zs) := by
  have H := Lib.hid h; have HN := Lib.hid hn
  clear h hn
  go_enter Tryz.func21, Tryz.ntmps21
  go_wp2_with (first
    | (go_at_call 38; (with_reducible refine (copied_any A n cap zs _ HN.out H.out hl).mono ?_); rintro r w1 ⟨rfl, hr, hb⟩; rw [← HN.out]; have HK := Lib.hid (new_st HN.out hr hb); clear hr hb)
    | fail)
  go_ret
  exact HK.out

set_option maxHeartbeats 1000000 in
theorem all_any {S D : Nat} {L : List Int} {c : Int} (w : World) (h : St w S D L c) (hl : L.length ≤ 1000000) :
    Calls Tryz.prog 10 #[ptr S] w (SomeRow w L) := by
  have hc := h.head
  have H := Lib.hid h.row.reads
  clear h
  obtain ⟨n, hn⟩ : ∃ n, n = L.length := ⟨_, rfl⟩
  rw [← hn] at hc hl
  have HN := Lib.hid hn; clear hn
  go_enter Tryz.func10, Tryz.ntmps10
  go_wp2_with (first
    | (go_at_call 38; (with_reducible refine (copied_any _ n _ L _ HN.out H.out hl).mono ?_); rintro r w1 ⟨rfl, hr⟩; rw [← HN.out]; have HK := Lib.hid hr; clear hr)
    | fail)
  go_ret
  exact ⟨by rw [HN.out]; rfl, HK.out⟩
end Go.Proofs.YtbpkcoemehmpbaaGreat

namespace Go.Proofs.YtbpkcoemehmpbaaGreat
open Go.RowKit
set_option linter.unusedVariables false

/-- A store of the call's own. -/
def Own (B S D : Nat) (w0 w : World) (L : List Int) (c : Int) : Prop := B ≤ S ∧ B ≤ D ∧ B ≤ w0.heap.size ∧ St w S D L c ∧ Below B w0 w
theorem Own.of_new {w0 w w' : World} {B S D : Nat} {L : List Int} (hb : Below B w0 w) (hB : B ≤ w0.heap.size) (hS : w.heap.size ≤ S) (hD : w.heap.size ≤ D) (h : St w' S D L 0) (hb' : Below w.heap.size w w') : Own B S D w0 w' L 0 := by
  have := hb.size
  exact ⟨by omega, by omega, hB, h, below_step hb (by omega) hb'⟩
theorem Own.left {w0 w w' : World} {B S D : Nat} {L L' : List Int} {c c' : Int} (h : Own B S D w0 w L c) (k : Left S D L' c' w w') : Own B S D w0 w' L' c' :=
  ⟨h.1, h.2.1, h.2.2.1, k.1, below_upd h.2.2.2.2 h.2.2.1 k.2 h.1 h.2.1⟩
theorem Own.step {w0 w w' : World} {B S D : Nat} {L : List Int} {c : Int} (h : Own B S D w0 w L c) (k : Below w.heap.size w w') : Own B S D w0 w' L c :=
  ⟨h.1, h.2.1, h.2.2.1, h.2.2.2.1.below k, below_step h.2.2.2.2 (Nat.le_trans h.2.2.1 h.2.2.2.2.size) k⟩
theorem Own.st {w0 w : World} {B S D : Nat} {L : List Int} {c : Int} (h : Own B S D w0 w L c) : St w S D L c := h.2.2.2.1
theorem Own.bel {w0 w : World} {B S D : Nat} {L : List Int} {c : Int} (h : Own B S D w0 w L c) : Below B w0 w := h.2.2.2.2

theorem reads_lit2 (w : World) (x y : Int) : Reads .u64 (w.alloc (.cells #[.int .u64 x, .int .u64 y] 25)) (some ⟨w.heap.size, 0, none⟩) [x, y] := fun _ =>
  ⟨w.heap.size, 0, rfl, by simp, fun j hj => by
    rw [Nat.zero_add, World.cell?_alloc_at _ _ _ _ rfl]
    match j, hj with
    | 0, _ => rfl
    | 1, _ => rfl⟩
theorem reads_lit1 (w : World) (x : Int) : Reads .u64 (w.alloc (.cells #[.int .u64 x] 25)) (some ⟨w.heap.size, 0, none⟩) [x] := fun _ =>
  ⟨w.heap.size, 0, rfl, by simp, fun j hj => by
    rw [Nat.zero_add, World.cell?_alloc_at _ _ _ _ rfl]
    match j, hj with
    | 0, _ => rfl⟩

end Go.Proofs.YtbpkcoemehmpbaaGreat

namespace Go.Proofs.YtbpkcoemehmpbaaGreat
open Go.RowKit
set_option linter.unusedVariables false

/-- Two stores of the call's own. -/
structure Two (B S D E F : Nat) (w0 w : World) (L : List Int) (c : Int) (M : List Int) (d : Int) : Prop where
  one : Own B S D w0 w L c
  two : Own B E F w0 w M d
  n1 : S ≠ E
  n2 : S ≠ F
  n3 : D ≠ E
  n4 : D ≠ F
theorem Two.of_new {B S D E F : Nat} {w0 w w' : World} {L M : List Int} {c : Int} (h : Own B S D w0 w L c) (hE : w.heap.size ≤ E) (hF : w.heap.size ≤ F) (hs : St w' E F M 0) (hb : Below w.heap.size w w') : Two B S D E F w0 w' L c M 0 := by
  have h1 := h.st.ltS
  have h2 := h.st.row.lt
  exact ⟨h.step hb, Own.of_new h.bel h.2.2.1 hE hF hs hb, by omega, by omega, by omega, by omega⟩
theorem Two.left1 {B S D E F : Nat} {w0 w w' : World} {L L' M : List Int} {c c' d : Int} (h : Two B S D E F w0 w L c M d) (k : Left S D L' c' w w') : Two B S D E F w0 w' L' c' M d :=
  ⟨h.one.left k, ⟨h.two.1, h.two.2.1, h.two.2.2.1, h.two.st.upd k.2 (Ne.symm h.n1) (Ne.symm h.n3) (Ne.symm h.n2) (Ne.symm h.n4), (h.one.left k).bel⟩, h.n1, h.n2, h.n3, h.n4⟩
theorem Two.left2 {B S D E F : Nat} {w0 w w' : World} {L M M' : List Int} {c d d' : Int} (h : Two B S D E F w0 w L c M d) (k : Left E F M' d' w w') : Two B S D E F w0 w' L c M' d' :=
  ⟨⟨h.one.1, h.one.2.1, h.one.2.2.1, h.one.st.upd k.2 h.n1 h.n2 h.n3 h.n4, (h.two.left k).bel⟩, h.two.left k, h.n1, h.n2, h.n3, h.n4⟩
theorem Two.step {B S D E F : Nat} {w0 w w' : World} {L M : List Int} {c d : Int} (h : Two B S D E F w0 w L c M d) (k : Below w.heap.size w w') : Two B S D E F w0 w' L c M d :=
  ⟨h.one.step k, h.two.step k, h.n1, h.n2, h.n3, h.n4⟩
theorem Two.st1 {B S D E F : Nat} {w0 w : World} {L M : List Int} {c d : Int} (h : Two B S D E F w0 w L c M d) : St w S D L c := h.one.st
theorem Two.st2 {B S D E F : Nat} {w0 w : World} {L M : List Int} {c d : Int} (h : Two B S D E F w0 w L c M d) : St w E F M d := h.two.st
theorem Two.bel {B S D E F : Nat} {w0 w : World} {L M : List Int} {c d : Int} (h : Two B S D E F w0 w L c M d) : Below B w0 w := h.one.bel
end Go.Proofs.YtbpkcoemehmpbaaGreat

namespace Go.Proofs.YtbpkcoemehmpbaaGreat
open Go.RowKit
set_option linter.unusedVariables false

set_option maxHeartbeats 1000000 in
theorem add_any {S D : Nat} {L : List Int} {c : Int} (at' v : Int) (w : World) (h : St w S D L c) (h0 : 0 ≤ c) (h1 : c ≤ 1000000000) :
    Calls Tryz.prog 97 #[ptr S, .int .i64 at', .int .u64 v] w fun e w' => e = .returned (.int .u64 (ldv L at')) ∧ Left S D (adv L at' v) (c + 1) w w' := by
  obtain ⟨b, hb⟩ : ∃ b, b = inB L at' := ⟨_, rfl⟩
  have H := Lib.hid h; clear h
  cases b
  · have e : ldv L at' = 0 := by unfold ldv; rw [if_neg (by rw [← hb]; simp)]
    have e2 : adv L at' v = L := by unfold adv ptv; rw [if_neg (by rw [← hb]; simp)]
    rw [e, e2]
    have HB := Lib.hid hb; clear hb e e2
    go_enter Tryz.func97, Tryz.ntmps97
    go_wp2_with (first
      | (go_at_call 40; (with_reducible refine (reaches_any _ _ H.out h0 h1).mono ?_); rintro r w1 ⟨rfl, hk⟩; rw [← HB.out])
      | fail)
    go_ret
    exact ⟨rfl, hk⟩
  · have hi := in_yes hb.symm
    obtain ⟨i, rfl⟩ : ∃ i : Nat, at' = (i : Int) := ⟨at'.toNat, by omega⟩
    have hil : i < L.length := by omega
    have e : ldv L i = L.getD i 0 := by unfold ldv; rw [if_pos hb.symm]; simp
    have e2 : adv L i v = L.set i (IntKind.u64.wrap (L.getD i 0 + v)) := by unfold adv ptv; rw [if_pos hb.symm, e]; simp
    rw [e, e2]
    obtain ⟨n, hn⟩ : ∃ n, n = L.length := ⟨_, rfl⟩
    rw [← hn] at hi hil
    have HN := Lib.hid hn
    have HB := Lib.hid hb
    have HI := Lib.hid hil
    obtain ⟨z, hz⟩ : ∃ z, z = L.getD i 0 := ⟨_, rfl⟩
    rw [← hz]
    obtain ⟨y, hy⟩ : ∃ y, y = IntKind.u64.wrap (z + v) := ⟨_, rfl⟩
    rw [← hy]
    have HZ := Lib.hid hz
    have hi0 : (0 : Int) ≤ (i : Int) := by omega
    have hi1 : (i : Int) < (n : Int) := by omega
    have hy' := hy.symm
    clear hb e e2 hn hz hi hil hy
    go_enter Tryz.func97, Tryz.ntmps97
    go_wp2_with (first
      | (go_at_call 40; (with_reducible refine (reaches_any _ _ H.out h0 h1).mono ?_); rintro r w1 ⟨rfl, hk⟩; rw [← HB.out]; have hd := hk.1.head; rw [← HN.out] at hd; have hcl := hk.1.row.cell i (by have := HN.out; have := HI.out; omega); rw [← HZ.out] at hcl; have hfr := hk.1.row.frozen i; have HK := Lib.hid (left_set hk i y); clear hk)
      | fail)
    go_ret
    exact ⟨rfl, HK.out⟩


def SomeSlI (P : Nat → Prop) (w : World) (n : Nat) (zs : List Int) (x : Int) (e : Ending) (w' : World) : Prop :=
  ∃ A cap, e = .returned (.tuple #[.slice A n cap, .int .u64 x]) ∧ ReadsW P w' A zs ∧ Below w.heap.size w w'

set_option maxHeartbeats 2000000 in
theorem radd_any (P : Nat → Prop) (A : Option Addr) (n cap : Nat) (zs : List Int) (at' v : Int) (w : World) (hn : n = zs.length) (hl : n ≤ 1000000) (h : ReadsW P w A zs) (hP : ∀ b, w.heap.size ≤ b → P b) :
    Calls Tryz.prog 50 #[.slice A n cap, .int .i64 at', .int .u64 v] w (SomeSlI P w n (adv zs at' v) (ldv zs at')) := by
  obtain ⟨z, hz⟩ : ∃ z, z = ldv zs at' := ⟨_, rfl⟩
  have he : adv zs at' v = ptv zs at' (IntKind.u64.wrap (z + v)) := by rw [hz]; rfl
  obtain ⟨y, hy⟩ : ∃ y, y = IntKind.u64.wrap (z + v) := ⟨_, rfl⟩
  rw [← hy] at he
  rw [he, ← hz]
  have H := Lib.hid h; have HN := Lib.hid hn; have HZ := Lib.hid hz
  have hy' := hy.symm
  clear h hn hz he hy
  go_enter Tryz.func50, Tryz.ntmps50
  go_wp2_with (first
    | (go_at_call 43; (with_reducible refine (rload_any A n cap zs _ _ HN.out H.out.reads).mono ?_); rintro r w1 ⟨rfl, rfl⟩; rw [← HZ.out])
    | (go_at_call 14; (with_reducible refine (rput_any P A n cap zs _ _ _ HN.out hl H.out hP).mono ?_); rintro r w1 ⟨A2, cap2, rfl, hk⟩; have HK := Lib.hid hk; clear hk)
    | fail)
  go_ret2
  exact ⟨A2, cap2, rfl, HK.out⟩


/-- How many accesses there were. -/
theorem cnt_cl {S D : Nat} {L : List Int} {c : Int} (w : World) (h : St w S D L c) : Calls Tryz.prog 15 #[ptr S] w fun a w' => a = .returned (.int .i64 c) ∧ w = w' := by
  have hc := h.many
  clear h
  go_enter Tryz.func15, Tryz.ntmps15
  go_wp2
  go_ret
  exact ⟨rfl, rfl⟩


end Go.Proofs.YtbpkcoemehmpbaaGreat
