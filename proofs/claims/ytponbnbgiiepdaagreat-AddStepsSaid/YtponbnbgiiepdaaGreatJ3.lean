/- A store that is made, and all its words in new memory, walked. The document's example, a choice of two words, and an access by its kind, walked. Two stores of the call's own, apart from each other; the words of a slice that came in, read later on. A stack's machines: one that runs alone, in a stack, and in any memory; a walk. Where links stand: the map's own methods Link and Next as functions; what catches their panics. Rows of integers of the call's own. Which blocks may have changed. -/
import Derived.Test.YtponbnbgiiepdaaGreatJ2
import Derived.Test.YtponbnbgiiepdaaGreatSkPure
import Derived.Test.YtponbnbgiiepdaaGreatJ1
import Derived.Test.YtponbnbgiiepdaaGreatLayAcc
import Derived.Defers
import Derived.Recover
import Derived.Laws.EntriesVeiled
import Derived.Test.YtponbnbgiiepdaaGreatLayMap
namespace Go.Proofs.YtponbnbgiiepdaaGreat
open Go.RowKit
set_option linter.unusedVariables false
set_option maxRecDepth 100000

theorem made_words (n : Nat) : (madeCells (Value.int .u64 0).cells n).toList = List.replicate n (.int .u64 0) := by
  apply List.ext_getElem?
  intro j
  by_cases hj : j < n
  · simp [madeCells, hj, Value.cells, Nat.mod_one]
  · simp [madeCells, hj]
theorem make_words (n : Nat) (w : World) (hn : n ≤ 1000000) : (Instr.makeSlice 41 (.int .i64 (n : Int)) (.int .i64 (n : Int))).run Tryz.prog w = .ok (.slice (some ⟨w.heap.size, 0, none⟩) n n) (w.alloc (.cells ((List.replicate n (0 : Int)).map (Value.int .u64)).toArray 25)) := by
  obtain ⟨i0, hi, hz0, hz1, hz2⟩ := info_parts info34
  have := run_make w 41 25 i0 (.int .u64 0) Tryz.underlying41 hi hz0 .i64 .i64 n n (by omega) (Int.le_refl _) (by rw [hz2]; omega) (by omega)
  have e : madeCells (Value.int .u64 0).cells n = ((List.replicate n (0 : Int)).map (Value.int .u64)).toArray := by
    apply Array.ext'
    rw [made_words]; simp
  simpa [hz1, e] using this
theorem row_new (w : World) (L : List Int) : Row (w.alloc (.cells (L.map (Value.int .u64)).toArray 25)) w.heap.size L := by
  show (w.heap.push _)[w.heap.size]? = _
  simp
theorem splice_all {α : Type} (L cs : List α) (h : cs.length = L.length) : splice L 0 cs = cs := by
  simp [splice, h]

/-- Words in new memory. -/
def SomeRow (w : World) (L : List Int) (e : Ending) (w' : World) : Prop :=
  e = .returned (.slice (some ⟨w.heap.size, 0, none⟩) L.length L.length) ∧ Row w' w.heap.size L ∧ Below w.heap.size w w'

set_option maxHeartbeats 1000000 in
theorem copied_any (A : Option Addr) (n cap : Nat) (zs : List Int) (w : World) (hn : n = zs.length) (h : Reads .u64 w A zs) (hl : n ≤ 1000000) :
    Calls Tryz.prog 45 #[.slice A n cap] w (SomeRow w zs) := by
  have hmk := make_words n w hl
  have HRow := Lib.hid (row_new w (List.replicate n (0 : Int)))
  obtain ⟨V, hV⟩ : ∃ V, V = (List.replicate n (0 : Int)).map (Value.int .u64) := ⟨_, rfl⟩
  obtain ⟨X, hX⟩ : ∃ X, X = zs.map (Value.int .u64) := ⟨_, rfl⟩
  rw [← hV] at hmk
  obtain ⟨W1, hW1⟩ : ∃ W1, W1 = w.alloc (.cells V.toArray 25) := ⟨_, rfl⟩
  have hb1 : Below w.heap.size w W1 := by rw [hW1]; exact below_alloc0 (Below.refl _ _) _
  have hrow : W1.heap[w.heap.size]? = some (.cells V.toArray 25 (0, 0)) := by rw [hW1, hV]; exact HRow.out
  rw [← hW1] at hmk
  have hVl : V.length = n := by rw [hV]; simp
  have hXl : X.length = n := by rw [hX, hn]; simp
  have hXc : ∀ v ∈ X, v.oneCell' = true := by
    rw [hX]; intro v hv
    obtain ⟨x, _, rfl⟩ := List.mem_map.1 hv
    rfl
  have hsrc : 0 < X.length → (some (⟨w.heap.size, 0, none⟩ : Addr)) = some ⟨w.heap.size, 0, none⟩ ∧ ∃ ad, A = some ad ∧ ∀ j v, X[j]? = some v → W1.cell? (ad.add j) = some v := fun h0 => by
    refine ⟨rfl, ?_⟩
    obtain ⟨b, off, rfl, hlt, hc⟩ := (h.below hb1 (Nat.le_refl _)) (by omega)
    refine ⟨_, rfl, fun j v hj => ?_⟩
    have hjn : j < zs.length := by
      rcases Nat.lt_or_ge j zs.length with h' | h'
      · exact h'
      · rw [hX, List.getElem?_eq_none (by simpa using h')] at hj; cases hj
    rw [add_off, hc j hjn]
    rw [hX, map_get .u64 zs j hjn] at hj
    exact hj
  have HB1 := Lib.hid hb1; have HROW := Lib.hid hrow; have HVL := Lib.hid hVl; have HXL := Lib.hid hXl; have HXC := Lib.hid hXc; have HS := Lib.hid hsrc; have HN := Lib.hid hn; have HX := Lib.hid hX
  clear hb1 hrow hVl hXl hXc hsrc hn hX h hW1 hV
  go_enter Tryz.func45, Tryz.ntmps45
  go_wp2_with (first
    | (with_reducible refine wpList_copy_splice rfl _ _ 41 41 rfl 25 Tryz.underlying41 (by kernel_rfl) (some ⟨w.heap.size, 0, none⟩) A n n n cap rfl rfl w.heap.size 0 V 25 HROW.out X (by rw [HXL.out]; simp) HS.out (by have := HVL.out; have := HXL.out; omega) HXC.out w.heap.size w HB1.out (Nat.le_refl _) ?_; intro w2 hg2 hb2)
    | fail)
  go_ret
  refine ⟨?_, ?_, hb2⟩
  · rw [HN.out]; rfl
  · have := hg2.out
    rw [splice_all V X (by rw [HXL.out, HVL.out]), HX.out] at this
    exact this

/-- A store that has been made, of these words. -/
def SomeNew (w : World) (L : List Int) (e : Ending) (w' : World) : Prop :=
  ∃ S D, e = .returned (ptr S) ∧ w.heap.size ≤ S ∧ w.heap.size ≤ D ∧ St w' S D L 0 ∧ Below w.heap.size w w'
theorem new_st {w w1 : World} {L : List Int} {n : Nat} (hn : n = L.length) (hr : Row w1 w.heap.size L) (hb : Below w.heap.size w w1) :
    SomeNew w L (.returned (ptr w1.heap.size)) (w1.alloc (.cells #[.slice (some ⟨w.heap.size, 0, none⟩) n n, .int .i64 0] 103)) := by
  have hlt := hr.lt
  refine ⟨w1.heap.size, w.heap.size, rfl, hb.size, Nat.le_refl _, ⟨by omega, ?_, ?_⟩, below_alloc0 hb _⟩
  · rw [hn]
    show (w1.heap.push _)[w1.heap.size]? = _
    simp
  · exact (Below.heap_alloc _ _ _ hlt).trans hr

set_option maxHeartbeats 1000000 in
theorem new_any (A : Option Addr) (n cap : Nat) (zs : List Int) (w : World) (hn : n = zs.length) (h : Reads .u64 w A zs) (hl : n ≤ 1000000) :
    Calls Tryz.prog 13 #[.slice A n cap] w (SomeNew w zs) := by
  have H := Lib.hid h; have HN := Lib.hid hn
  clear h hn
  go_enter Tryz.func13, Tryz.ntmps13
  go_wp2_with (first
    | (go_at_call 45; (with_reducible refine (copied_any A n cap zs _ HN.out H.out hl).mono ?_); rintro r w1 ⟨rfl, hr, hb⟩; rw [← HN.out]; have HK := Lib.hid (new_st HN.out hr hb); clear hr hb)
    | fail)
  go_ret
  exact HK.out

set_option maxHeartbeats 1000000 in
theorem all_any {S D : Nat} {L : List Int} {c : Int} (w : World) (h : St w S D L c) (hl : L.length ≤ 1000000) :
    Calls Tryz.prog 17 #[ptr S] w (SomeRow w L) := by
  have hc := h.head
  have H := Lib.hid h.row.reads
  clear h
  obtain ⟨n, hn⟩ : ∃ n, n = L.length := ⟨_, rfl⟩
  rw [← hn] at hc hl
  have HN := Lib.hid hn; clear hn
  go_enter Tryz.func17, Tryz.ntmps17
  go_wp2_with (first
    | (go_at_call 45; (with_reducible refine (copied_any _ n _ L _ HN.out H.out hl).mono ?_); rintro r w1 ⟨rfl, hr⟩; rw [← HN.out]; have HK := Lib.hid hr; clear hr)
    | fail)
  go_ret
  exact ⟨by rw [HN.out]; rfl, HK.out⟩
end Go.Proofs.YtponbnbgiiepdaaGreat

namespace Go.Proofs.YtponbnbgiiepdaaGreat
open Go.RowKit
set_option linter.unusedVariables false

/-- A store of the call's own. -/
def Own (B S D : Nat) (w0 w : World) (L : List Int) (c : Int) : Prop := B ≤ S ∧ B ≤ D ∧ B ≤ w0.heap.size ∧ St w S D L c ∧ Below B w0 w
theorem Own.of_new {w0 w w' : World} {B S D : Nat} {L : List Int} (hb : Below B w0 w) (hB : B ≤ w0.heap.size) (hS : w.heap.size ≤ S) (hD : w.heap.size ≤ D) (h : St w' S D L 0) (hb' : Below w.heap.size w w') : Own B S D w0 w' L 0 := by
  have := hb.size
  exact ⟨by omega, by omega, hB, h, below_step hb (by omega) hb'⟩
theorem Own.left {w0 w w' : World} {B S D : Nat} {L L' : List Int} {c c' : Int} (h : Own B S D w0 w L c) (k : Left S D L' c' w w') : Own B S D w0 w' L' c' :=
  ⟨h.1, h.2.1, h.2.2.1, k.1, below_upd h.2.2.2.2 h.2.2.1 k.2 h.1 h.2.1⟩
theorem Own.step {w0 w w' : World} {B S D : Nat} {L : List Int} {c : Int} (h : Own B S D w0 w L c) (k : Below w.heap.size w w') : Own B S D w0 w' L c :=
  ⟨h.1, h.2.1, h.2.2.1, h.2.2.2.1.below k, below_step h.2.2.2.2 (Nat.le_trans h.2.2.1 h.2.2.2.2.size) k⟩
theorem Own.st {w0 w : World} {B S D : Nat} {L : List Int} {c : Int} (h : Own B S D w0 w L c) : St w S D L c := h.2.2.2.1
theorem Own.bel {w0 w : World} {B S D : Nat} {L : List Int} {c : Int} (h : Own B S D w0 w L c) : Below B w0 w := h.2.2.2.2

theorem reads_lit2 (w : World) (x y : Int) : Reads .u64 (w.alloc (.cells #[.int .u64 x, .int .u64 y] 25)) (some ⟨w.heap.size, 0, none⟩) [x, y] := fun _ =>
  ⟨w.heap.size, 0, rfl, by simp, fun j hj => by
    rw [Nat.zero_add, World.cell?_alloc_at _ _ _ _ rfl]
    match j, hj with
    | 0, _ => rfl
    | 1, _ => rfl⟩
theorem reads_lit1 (w : World) (x : Int) : Reads .u64 (w.alloc (.cells #[.int .u64 x] 25)) (some ⟨w.heap.size, 0, none⟩) [x] := fun _ =>
  ⟨w.heap.size, 0, rfl, by simp, fun j hj => by
    rw [Nat.zero_add, World.cell?_alloc_at _ _ _ _ rfl]
    match j, hj with
    | 0, _ => rfl⟩

end Go.Proofs.YtponbnbgiiepdaaGreat

namespace Go.Proofs.YtponbnbgiiepdaaGreat
open Go.RowKit
set_option linter.unusedVariables false

/-- Two stores of the call's own. -/
structure Two (B S D E F : Nat) (w0 w : World) (L : List Int) (c : Int) (M : List Int) (d : Int) : Prop where
  one : Own B S D w0 w L c
  two : Own B E F w0 w M d
  n1 : S ≠ E
  n2 : S ≠ F
  n3 : D ≠ E
  n4 : D ≠ F
theorem Two.of_new {B S D E F : Nat} {w0 w w' : World} {L M : List Int} {c : Int} (h : Own B S D w0 w L c) (hE : w.heap.size ≤ E) (hF : w.heap.size ≤ F) (hs : St w' E F M 0) (hb : Below w.heap.size w w') : Two B S D E F w0 w' L c M 0 := by
  have h1 := h.st.ltS
  have h2 := h.st.row.lt
  exact ⟨h.step hb, Own.of_new h.bel h.2.2.1 hE hF hs hb, by omega, by omega, by omega, by omega⟩
theorem Two.left1 {B S D E F : Nat} {w0 w w' : World} {L L' M : List Int} {c c' d : Int} (h : Two B S D E F w0 w L c M d) (k : Left S D L' c' w w') : Two B S D E F w0 w' L' c' M d :=
  ⟨h.one.left k, ⟨h.two.1, h.two.2.1, h.two.2.2.1, h.two.st.upd k.2 (Ne.symm h.n1) (Ne.symm h.n3) (Ne.symm h.n2) (Ne.symm h.n4), (h.one.left k).bel⟩, h.n1, h.n2, h.n3, h.n4⟩
theorem Two.left2 {B S D E F : Nat} {w0 w w' : World} {L M M' : List Int} {c d d' : Int} (h : Two B S D E F w0 w L c M d) (k : Left E F M' d' w w') : Two B S D E F w0 w' L c M' d' :=
  ⟨⟨h.one.1, h.one.2.1, h.one.2.2.1, h.one.st.upd k.2 h.n1 h.n2 h.n3 h.n4, (h.two.left k).bel⟩, h.two.left k, h.n1, h.n2, h.n3, h.n4⟩
theorem Two.step {B S D E F : Nat} {w0 w w' : World} {L M : List Int} {c d : Int} (h : Two B S D E F w0 w L c M d) (k : Below w.heap.size w w') : Two B S D E F w0 w' L c M d :=
  ⟨h.one.step k, h.two.step k, h.n1, h.n2, h.n3, h.n4⟩
theorem Two.st1 {B S D E F : Nat} {w0 w : World} {L M : List Int} {c d : Int} (h : Two B S D E F w0 w L c M d) : St w S D L c := h.one.st
theorem Two.st2 {B S D E F : Nat} {w0 w : World} {L M : List Int} {c d : Int} (h : Two B S D E F w0 w L c M d) : St w E F M d := h.two.st
theorem Two.bel {B S D E F : Nat} {w0 w : World} {L M : List Int} {c d : Int} (h : Two B S D E F w0 w L c M d) : Below B w0 w := h.one.bel
end Go.Proofs.YtponbnbgiiepdaaGreat

namespace Go.Proofs.YtponbnbgiiepdaaGreat
set_option linter.unusedVariables false
set_option linter.unusedSimpArgs false

def sruns : Nat → List Int → Sm → List Int × Sm
  | 0, L, m => (L, m)
  | k + 1, L, m => sruns k (sstp L m).1 (sstp L m).2
theorem sstp_no {L : List Int} {m : Sm} (h : m.pc = 0) : sstp L m = (L, m) := by simp [sstp, h]
theorem sruns_done {L : List Int} {m : Sm} (h : m.pc = 0) (k : Nat) : sruns k L m = (L, m) := by
  induction k with
  | zero => rfl
  | succ k ih => simp only [sruns, sstp_no h]; exact ih

/-! The steps, one by one. -/
theorem push_first {L : List Int} {m : Sm} (hk : m.kind = 1) (hp : m.pc = 1) {w : Int} (hw : ldq L m.k.head = w) :
    sstp L m = (L, { m with pc := 2, h := w, link := low w, tries := m.tries + 1 }) := by
  subst hw; simp [sstp, hk, hp]
theorem push_link {L : List Int} {m : Sm} (hk : m.kind = 1) (hp : m.pc = 2) : sstp L m = (ptq L (atOf m.k.links m.item) m.link, { m with pc := 3 }) := by
  simp [sstp, hk, hp]
theorem pop_link {L : List Int} {m : Sm} (hk : m.kind = 2) (hp : m.pc = 2) : sstp L m = (L, { m with pc := 3, link := low (ldq L (atOf m.k.links m.item)) }) := by
  simp [sstp, hk, hp]
theorem push_swap {L : List Int} {m : Sm} (hk : m.kind = 1) (hp : m.pc = 3) : sstp L m = swapS L m m.item := by
  simp [sstp, hk, hp]
theorem pop_swap {L : List Int} {m : Sm} (hk : m.kind = 2) (hp : m.pc = 3) : sstp L m = swapS L m m.link := by
  simp [sstp, hk, hp]

end Go.Proofs.YtponbnbgiiepdaaGreat

namespace Go.Proofs.YtponbnbgiiepdaaGreat
open Go.RowKit
set_option linter.unusedVariables false

/-- The places of packets' links, and of nodes' next ones, as lists. -/
def lnkL (c : Lay.Cfg) : List Int := (List.range (Lay.packN c).toNat).map fun (i : Nat) => Lay.plcc c 12 ((i : Int) + 1) 0
def nxtL (c : Lay.Cfg) : List Int := (List.range (Lay.nodesN c).toNat).map fun (i : Nat) => Lay.plcc c 17 ((i : Int) + 1) 0
theorem lnk_len (c : Lay.Cfg) : (lnkL c).length = (Lay.packN c).toNat := by simp [lnkL]
theorem nxt_len (c : Lay.Cfg) : (nxtL c).length = (Lay.nodesN c).toNat := by simp [nxtL]
theorem atOf_row (n : Nat) (f : Int → Int) (x : Int) (h : ∀ x, x < 1 ∨ (n : Int) < x → f x = -1) : atOf ((List.range n).map fun (i : Nat) => f ((i : Int) + 1)) x = f x := by
  unfold atOf
  simp only [List.length_map, List.length_range]
  by_cases hx : 1 ≤ x ∧ x ≤ (n : Int)
  · rw [if_pos hx]
    obtain ⟨i, hi⟩ : ∃ i : Nat, x = (i : Int) + 1 := ⟨(x - 1).toNat, by omega⟩
    subst hi
    have e : ((i : Int) + 1 - 1).toNat = i := by omega
    rw [e]
    simp [List.getD, show i < n by omega]
  · rw [if_neg hx, h x (by omega)]
theorem lnk_at {c : Lay.Cfg} (hc : Lay.OkC c) (x : Int) : atOf (lnkL c) x = Lay.plcc c 12 x 0 := by
  refine atOf_row _ (fun x => Lay.plcc c 12 x 0) x fun x hx => ?_
  have h0 := (Lay.bds hc).p0
  unfold Lay.plcc Lay.plc
  rw [if_neg (by simp), if_neg (by simp), if_neg (by simp), if_neg (by simp), if_neg (by simp), if_neg (by simp), if_neg (by simp), if_neg (by simp), if_pos (by simp)]
  exact if_neg (show ¬ (1 ≤ x ∧ x ≤ (((Lay.packN c).toNat : Nat) : Int)) by omega)
theorem nxt_at' {c : Lay.Cfg} (hc : Lay.OkC c) (x : Int) : atOf (nxtL c) x = Lay.plcc c 17 x 0 := by
  refine atOf_row _ (fun x => Lay.plcc c 17 x 0) x fun x hx => ?_
  have hl := Lay.ks_len hc
  unfold Lay.plcc Lay.plc
  rw [if_neg (by simp), if_neg (by simp), if_neg (by simp), if_neg (by simp), if_neg (by simp), if_neg (by simp), if_neg (by simp), if_neg (by simp), if_neg (by simp), if_neg (by simp), if_pos (by simp)]
  have e : (Lay.roomsN c).length = (Lay.ksOf c).length := by simp [Lay.roomsN]
  exact if_neg (show ¬ (1 ≤ x ∧ x ≤ (((Lay.roomsN c).length : Nat) : Int)) by omega)

/-- A function that tells where links stand. -/
def Lk (w : World) (lv : Value) (Ab : Nat) (zs : List Int) : Prop :=
  ∃ c, Lay.OkC c ∧ Lay.IsMap w Ab c ∧ ((lv = .func (.func 55) #[Lay.mapP Ab] #[] ∧ zs = lnkL c) ∨ (lv = .func (.func 53) #[Lay.mapP Ab] #[] ∧ zs = nxtL c))
theorem Lk.lt {w : World} {lv : Value} {Ab : Nat} {zs : List Int} (h : Lk w lv Ab zs) : Ab < w.heap.size := by
  obtain ⟨c, _, h, _⟩ := h; exact h.1
theorem Lk.keep {w w' : World} {lv : Value} {Ab : Nat} {zs : List Int} (h : Lk w lv Ab zs) (hs : w.heap.size ≤ w'.heap.size) (h2 : w'.heap[Ab]? = w.heap[Ab]?) : Lk w' lv Ab zs := by
  obtain ⟨c, hc, hm, hr⟩ := h
  exact ⟨c, hc, ⟨Nat.lt_of_lt_of_le hm.1 hs, fun i hi => (World.cell?_of_block (w := w) (a := ⟨Ab, i, none⟩) h2).trans (hm.2 i hi)⟩, hr⟩
theorem Lk.below {w w' : World} {lv : Value} {Ab : Nat} {zs : List Int} (h : Lk w lv Ab zs) (hb : Below w.heap.size w w') : Lk w' lv Ab zs :=
  h.keep hb.size (hb.block Ab h.lt)

theorem catch_idle (p : Addr) (w : World) :
    CallsD Tryz.prog 120 #[.pointer (some p)] .returning w fun e u' w' => e = .returned (.tuple #[]) ∧ u' = .returning ∧ w' = w := by
  refine callsD_of_wpS Tryz.func120 rfl fun c₀ cs hu => ?_
  apply wpS_seq
  apply wpS_region
  simp [wpOpsS, go_sem, recoverD, hu, Tryz.ntmps120, Exit.thenS]
  refine wpS_cond (t := false) (by simp [Act.eval, Array.replicate]) ?_
  simp only [Bool.false_eq_true, if_false]
  refine wpS_of_wp (wp_skip ?_)
  cases c₀
  simp_all [bodyPostS, results, Tryz.results120]

theorem pcell {W w1 : World} (hb : Below W.heap.size W w1) : (∀ b o, b < W.heap.size → w1.cell? ⟨b, o, none⟩ = W.cell? ⟨b, o, none⟩) ∧ (∀ b o, b < W.heap.size → w1.frozen? ⟨b, o, none⟩ = W.frozen? ⟨b, o, none⟩) :=
  ⟨fun b o h => hb.cell (p := ⟨b, o, none⟩) h, fun b o h => hb.frozen (p := ⟨b, o, none⟩) h⟩

set_option maxHeartbeats 1000000 in
theorem place_any {lv : Value} {Ab : Nat} {zs : List Int} (x : Int) (w : World) (h : Lk w lv Ab zs) (h0 : 0 ≤ x) (h1 : x ≤ 4294967295) :
    Calls Tryz.prog 99 #[lv, .int .u32 x] w fun e w' => e = .returned (.int .i64 (atOf zs x)) ∧ Below w.heap.size w w' := by
  have hmf : ∀ (fn : Fn) (first cap : Array Value) (w : World), (Instr.makeFunc fn first cap).run Tryz.prog w = .ok (.func fn first cap) w := fun _ _ _ _ => rfl
  obtain ⟨c, hc, hm, hr⟩ := h
  have H := Lib.hid hm; have HC := Lib.hid hc
  have hwf : (Lit.int .i64 x).wf = true := Lay.wf_i64 (by omega) (by omega)
  rcases hr with ⟨rfl, rfl⟩ | ⟨rfl, rfl⟩
  · rw [lnk_at hc]
    clear hm hc
    go_enter_defers Tryz.func99, Tryz.ntmps99
    go_wp2_with (first
      | (go_at_call 55; (with_reducible refine (Lay.link_m HC.out Ab x hwf _ (H.out.below (below_alloc0 (Below.refl _ _) _))).mono ?_); rintro r w1 ⟨rfl, hb⟩; obtain ⟨hcc, hff⟩ := pcell hb)
      | fail)
    have e0 : w1.cell? ⟨w.heap.size, 0, none⟩ = some (.int .i64 0) := (hcc _ 0 (by simp)).trans (by rw [World.cell?_alloc_at _ _ _ _ rfl]; rfl)
    have hw : Below w.heap.size w w1 := below_then (below_alloc0 (Below.refl _ _) _) hb
    refine leaves_cons (f := 120) (args := #[.pointer (some ⟨w.heap.size, 0, none⟩)]) (by simp) (by simp [go_sem]) ?_
    refine (catch_idle ⟨w.heap.size, 0, none⟩ _).mono ?_
    rintro e u' w'' ⟨rfl, rfl, rfl⟩
    refine ⟨.int .i64 (Lay.plcc c 12 x 0), ?_, rfl, hw.setCell (Nat.le_refl _) _⟩
    have e1 := World.cell?_setCell_same w1 ⟨w.heap.size, 0, none⟩ (.int .i64 (Lay.plcc c 12 x 0)) e0
    simp [results, Tryz.results99, go_sem, e1]
  · rw [nxt_at' hc]
    clear hm hc
    go_enter_defers Tryz.func99, Tryz.ntmps99
    go_wp2_with (first
      | (go_at_call 53; (with_reducible refine (Lay.next_m HC.out Ab x hwf _ (H.out.below (below_alloc0 (Below.refl _ _) _))).mono ?_); rintro r w1 ⟨rfl, hb⟩; obtain ⟨hcc, hff⟩ := pcell hb)
      | fail)
    have e0 : w1.cell? ⟨w.heap.size, 0, none⟩ = some (.int .i64 0) := (hcc _ 0 (by simp)).trans (by rw [World.cell?_alloc_at _ _ _ _ rfl]; rfl)
    have hw : Below w.heap.size w w1 := below_then (below_alloc0 (Below.refl _ _) _) hb
    refine leaves_cons (f := 120) (args := #[.pointer (some ⟨w.heap.size, 0, none⟩)]) (by simp) (by simp [go_sem]) ?_
    refine (catch_idle ⟨w.heap.size, 0, none⟩ _).mono ?_
    rintro e u' w'' ⟨rfl, rfl, rfl⟩
    refine ⟨.int .i64 (Lay.plcc c 17 x 0), ?_, rfl, hw.setCell (Nat.le_refl _) _⟩
    have e1 := World.cell?_setCell_same w1 ⟨w.heap.size, 0, none⟩ (.int .i64 (Lay.plcc c 17 x 0)) e0
    simp [results, Tryz.results99, go_sem, e1]
end Go.Proofs.YtponbnbgiiepdaaGreat

namespace Go.Proofs.YtponbnbgiiepdaaGreat
open Go.RowKit
set_option linter.unusedVariables false

theorem info3 : (Tryz.prog.info? 3).map (fun i => (i.zero, i.size, i.bytes)) = some (some (.int .i64 0), 1, 8) := by kernel_rfl
theorem grown_of_below {a b : World} {row : Option Nat} (h : Below a.heap.size a b) : a.grownBy b row :=
  ⟨h.os, h.tape, h.output, h.size, fun i hi _ => h.block i hi⟩
/-- A row of integers of the call's own. -/
def OwnI (k : IntKind) (e : TypeId) (B : Nat) (w0 wr : World) (v : Value) (l : List Int) : Prop :=
  wr.ownsRow B e 1 v l.length (l.map (Value.int k)) ∧ Below B w0 wr
theorem OwnI.nil {k : IntKind} {e : TypeId} {B : Nat} {w0 wr : World} (h : Below B w0 wr) : OwnI k e B w0 wr (.slice none 0 0) [] := ⟨World.ownsRow_nil _ _ _ _, h⟩
theorem OwnI.step {k : IntKind} {e : TypeId} {B : Nat} {w0 wr w' : World} {v : Value} {l : List Int} (h : OwnI k e B w0 wr v l) (hB : B ≤ w0.heap.size) (hb : Below wr.heap.size wr w') : OwnI k e B w0 w' v l :=
  ⟨h.1.kept (grown_of_below (row := none) hb) (by cases v.ownBlock <;> simp), below_step h.2 (Nat.le_trans hB h.2.size) hb⟩
theorem OwnI.alloc {k : IntKind} {e : TypeId} {B : Nat} {w0 wr : World} {v : Value} {l : List Int} (h : OwnI k e B w0 wr v l) (hB : B ≤ w0.heap.size) (o : Obj) : OwnI k e B w0 (wr.alloc o) v l :=
  ⟨h.1.alloc o, h.2.alloc (Nat.le_trans hB h.2.size) o⟩
theorem OwnI.reads {k : IntKind} {e : TypeId} {B : Nat} {w0 wr : World} {v : Value} {l : List Int} (h : OwnI k e B w0 wr v l) : ∃ A cap, v = .slice A l.length cap ∧ Reads k wr A l ∧ (A = none → cap = 0) ∧ l.length ≤ cap ∧ cap ≤ maxLen := by
  obtain ⟨ho, hb⟩ := h
  have hlt := ho.lt
  have hcell := fun g (hg : v.ownBlock = some g) => ho.cells hg
  obtain ⟨hl, ⟨h1, h2⟩ | ⟨g, cap, cur, h1, h2, h3, h4, h5, h6, h7⟩⟩ := ho
  · exact ⟨none, 0, by rw [h1, h2], fun h => by omega, fun _ => rfl, by omega, by unfold maxLen; omega⟩
  · refine ⟨_, cap, h1, fun _ => ⟨g, 0, rfl, (hlt g (by rw [h1]; rfl)).2, fun i hi => ?_⟩, (fun e => by cases e), h4, h5⟩
    have c0 := hcell g (by rw [h1]; rfl) i _ (map_get k l i hi)
    rw [add_off] at c0
    exact c0

/-- An append of one integer that has just been built. -/
theorem append_int {k : IntKind} {wr : World} {T : TypeId} {x : Int} {ops : Array Oper} {rest : List Oper} {o : Oper} {a : Act} {Q : Exit → Act → World → Prop} (hg : o.guard = none) (s c : Operand) (t e : TypeId)
    (ho : o.op = .call { callee := .builtin .append, args := #[s, c], argTypes := #[t, t] }) (ht : Tryz.prog.underlying t = some (.slice e))
    (hi : (Tryz.prog.info? e).map (fun i => (i.zero, i.size, i.bytes)) = some (some (.int k 0), 1, 8))
    (B : Nat) (w0 : World) (v : Value) (l : List Int) (hs : a.eval s = v) (hown : OwnI k e B w0 wr v l) (hx : a.eval c = .slice (some ⟨wr.heap.size, 0, none⟩) 1 1) (hl : l.length ≤ 100000) (hB : B ≤ w0.heap.size)
    (h : ∀ v' w', OwnI k e B w0 w' v' (l ++ [x]) → wpList Tryz.prog ops Q rest (a.put o.dst v') w') :
    wpList Tryz.prog ops Q (o :: rest) a (wr.alloc (.cells #[.int k x] T)) := by
  obtain ⟨i0, hi0, hz0, hz1, hz2⟩ := info_parts hi
  have hsz := hown.2.size
  have hn := hown.alloc hB (.cells #[.int k x] T)
  refine wpList_append_own _ hg s c t ho B e i0 _ 1 8 ht hi0 hz0 hz1 hz2 rfl (by decide) v l.length _ hs hn.1 ⟨wr.heap.size, 0, none⟩ 1 1 [.int k x] hx rfl ?_ ?_ (by unfold maxLen; omega) (by omega) (by simp; omega) ?_
  · intro j u hj
    rw [add_off, World.cell?_alloc_at _ _ _ _ rfl]
    match j, hj with
    | 0, hj => simp at hj; subst hj; rfl
  · intro u hu
    simp at hu
    rcases hu with rfl
    rfl
  · intro v' w' h1 h2 _
    refine h v' w' ⟨by simpa using h1, hn.2.grown h2 (by simp; omega) (fun b hb => (hn.1.lt b hb).1)⟩

/-- Where it lies. -/
theorem OwnI.blk {k : IntKind} {e : TypeId} {B : Nat} {w0 wr : World} {v : Value} {l : List Int} (h : OwnI k e B w0 wr v l) : ∃ A cap, v = .slice A l.length cap ∧ (0 < l.length → ∃ b off, A = some ⟨b, off, none⟩ ∧ B ≤ b ∧ b < wr.heap.size ∧ ∀ j, j < l.length → wr.cell? ⟨b, off + j, none⟩ = some (.int k (l.getD j 0))) := by
  obtain ⟨ho, hb⟩ := h
  have hlt := ho.lt
  have hcell := fun g (hg : v.ownBlock = some g) => ho.cells hg
  obtain ⟨hl, ⟨h1, h2⟩ | ⟨g, cap, cur, h1, h2, h3, h4, h5, h6, h7⟩⟩ := ho
  · exact ⟨none, 0, by rw [h1, h2], fun h => by omega⟩
  · refine ⟨_, cap, h1, fun _ => ⟨g, 0, rfl, (hlt g (by rw [h1]; rfl)).1, (hlt g (by rw [h1]; rfl)).2, fun i hi => ?_⟩⟩
    have c0 := hcell g (by rw [h1]; rfl) i _ (map_get k l i hi)
    rw [add_off] at c0
    exact c0
end Go.Proofs.YtponbnbgiiepdaaGreat

namespace Go.Proofs.YtponbnbgiiepdaaGreat
open Go.RowKit
set_option linter.unusedVariables false
set_option linter.unusedSimpArgs false

/-- Blocks of F alone may have changed. -/
structure UF (F : Nat → Prop) (w w' : World) : Prop where
  os : w'.os = w.os
  tape : w'.tape = w.tape
  output : w'.output = w.output
  size : w.heap.size ≤ w'.heap.size
  block : ∀ k, k < w.heap.size → ¬ F k → w'.heap[k]? = w.heap[k]?
theorem UF.refl (F : Nat → Prop) (w : World) : UF F w w := ⟨rfl, rfl, rfl, Nat.le_refl _, fun _ _ _ => rfl⟩
theorem UF.trans {F G H : Nat → Prop} {a b c : World} (h : UF F a b) (k : UF G b c) (hF : ∀ x, F x → H x) (hG : ∀ x, x < a.heap.size → G x → H x) : UF H a c :=
  ⟨k.os.trans h.os, k.tape.trans h.tape, k.output.trans h.output, Nat.le_trans h.size k.size, fun i hi hn => (k.block i (Nat.lt_of_lt_of_le hi h.size) (fun g => hn (hG i hi g))).trans (h.block i hi (fun f => hn (hF i f)))⟩
theorem UF.mono {F H : Nat → Prop} {a b : World} (h : UF F a b) (hF : ∀ x, x < a.heap.size → F x → H x) : UF H a b :=
  ⟨h.os, h.tape, h.output, h.size, fun i hi hn => h.block i hi (fun f => hn (hF i hi f))⟩
theorem UF.of_below {F : Nat → Prop} {w w' : World} (h : Below w.heap.size w w') : UF F w w' := ⟨h.os, h.tape, h.output, h.size, fun k hk _ => h.block k hk⟩
theorem UF.of_upd {S D : Nat} {w w' : World} (h : Upd S D w w') : UF (fun k => k = S ∨ k = D) w w' := ⟨h.os, h.tape, h.output, h.size, fun k hk hn => h.block k hk (fun e => hn (.inl e)) (fun e => hn (.inr e))⟩
theorem UF.set (w : World) (B i : Nat) (v : Value) : UF (fun k => k = B) w (w.setCell ⟨B, i, none⟩ v) := ⟨rfl, rfl, rfl, by simp, fun k _ hn => heap_setCell_other w ⟨B, i, none⟩ k v hn⟩
theorem below_uf {B : Nat} {F : Nat → Prop} {w0 w w' : World} (h : Below B w0 w) (hB : B ≤ w0.heap.size) (u : UF F w w') (hF : ∀ k, F k → B ≤ k) : Below B w0 w' :=
  h.trans ⟨u.os, u.tape, u.output, u.size, fun k hk => u.block k (Nat.lt_of_lt_of_le hk (Nat.le_trans hB h.size)) (fun f => by have := hF k f; omega)⟩
theorem IsMap_same {w w' : World} {N : Nat} {c : Lay.Cfg} (h : Lay.IsMap w N c) (hs : w.heap.size ≤ w'.heap.size) (hb : w'.heap[N]? = w.heap[N]?) : Lay.IsMap w' N c :=
  ⟨Nat.lt_of_lt_of_le h.1 hs, fun i hi => (World.cell?_of_block (w := w) (a := ⟨N, i, none⟩) hb).trans (h.2 i hi)⟩
theorem St_same {w w' : World} {S D : Nat} {L : List Int} {c : Int} (h : St w S D L c) (h1 : w'.heap[S]? = w.heap[S]?) (h2 : w'.heap[D]? = w.heap[D]?) : St w' S D L c :=
  ⟨h.ne, h1.trans h.top, h2.trans h.row⟩

end Go.Proofs.YtponbnbgiiepdaaGreat
