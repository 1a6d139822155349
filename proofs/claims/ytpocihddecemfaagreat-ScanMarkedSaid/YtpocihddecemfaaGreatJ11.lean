/- A stack's machine in memory: what it holds, and what stays while it goes on. The steps of a stack's machine, walked. The steps of a stack's machine that write, and that ask for a place, walked. A stack's machine in memory stands for one over words; each of its steps is that one's. How far a number is ahead of another one, walked. A deque's machine in memory: what it holds, and what stays while it goes on. The steps of a deque's machine, walked: its end, and the steps that look at a word alone. -/
import Derived.Test.YtpocihddecemfaaGreatJ10
import Derived.Test.YtpocihddecemfaaGreatJ3
import Derived.Test.YtpocihddecemfaaGreatDgPure
import Derived.Laws.EntriesVeiled
namespace Go.Proofs.YtpocihddecemfaaGreat
open Go.RowKit
set_option linter.unusedVariables false

abbrev fnv (n M : Nat) : Value := .func (.func n) #[ptr M] #[]

/-- All blocks but these three are as they were. -/
structure U3 (M S D : Nat) (w w' : World) : Prop where
  os : w'.os = w.os
  tape : w'.tape = w.tape
  output : w'.output = w.output
  size : w.heap.size ≤ w'.heap.size
  block : ∀ k, k < w.heap.size → k ≠ M → k ≠ S → k ≠ D → w'.heap[k]? = w.heap[k]?
theorem U3.refl (M S D : Nat) (w : World) : U3 M S D w w := ⟨rfl, rfl, rfl, Nat.le_refl _, fun _ _ _ _ _ => rfl⟩
theorem U3.trans {M S D : Nat} {a b c : World} (h : U3 M S D a b) (k : U3 M S D b c) : U3 M S D a c :=
  ⟨k.os.trans h.os, k.tape.trans h.tape, k.output.trans h.output, Nat.le_trans h.size k.size, fun i hi h0 h1 h2 => (k.block i (Nat.lt_of_lt_of_le hi h.size) h0 h1 h2).trans (h.block i hi h0 h1 h2)⟩
theorem U3.of_upd {M S D : Nat} {w w' : World} (h : Upd S D w w') : U3 M S D w w' := ⟨h.os, h.tape, h.output, h.size, fun k hk _ h1 h2 => h.block k hk h1 h2⟩
theorem U3.of_below {M S D : Nat} {w w' : World} (h : Below w.heap.size w w') : U3 M S D w w' := ⟨h.os, h.tape, h.output, h.size, fun k hk _ _ _ => h.block k hk⟩
theorem U3.setM {M S D : Nat} {a w : World} (h : U3 M S D a w) (i : Nat) (v : Value) : U3 M S D a (w.setCell ⟨M, i, none⟩ v) :=
  h.trans ⟨rfl, rfl, rfl, by simp, fun k hk h1 _ _ => heap_setCell_other w ⟨M, i, none⟩ k v h1⟩
theorem below_u3 {B M S D : Nat} {w0 w w' : World} (h : Below B w0 w) (hB : B ≤ w0.heap.size) (u : U3 M S D w w') (hM : B ≤ M) (hS : B ≤ S) (hD : B ≤ D) : Below B w0 w' :=
  h.trans ⟨u.os, u.tape, u.output, u.size, fun k hk => u.block k (Nat.lt_of_lt_of_le hk (Nat.le_trans hB h.size)) (by omega) (by omega) (by omega)⟩
theorem Lk.u3 {w w' : World} {M S D Ab : Nat} {lv : Value} {zs : List Int} (h : Lk w lv Ab zs) (u : U3 M S D w w') (n2 : Ab ≠ M ∧ Ab ≠ S ∧ Ab ≠ D) : Lk w' lv Ab zs :=
  h.keep u.size (u.block Ab h.lt n2.1 n2.2.1 n2.2.2)

/-- A machine's block. -/
def Mem (w : World) (M : Nat) (lv : Value) (hd : Int) (fs nx : Value) (se th li it tr : Int) : Prop :=
  w.heap[M]? = some (.cells #[.int .i64 hd, lv, fs, nx, .int .u64 se, .int .u32 th, .int .u32 li, .int .u32 it, .int .i64 tr] 208 (0, 0))
/-- A machine, its links and a store, apart. -/
structure Mst (w0 w : World) (M S D : Nat) (lv : Value) (Ab : Nat) (zs : List Int) (hd : Int) (fs nx : Value) (se th li it tr : Int) (L : List Int) (c : Int) : Prop where
  mem : Mem w M lv hd fs nx se th li it tr
  st : St w S D L c
  n1 : M ≠ S
  n2 : M ≠ D
  lk : Lk w lv Ab zs
  b2 : Ab ≠ M ∧ Ab ≠ S ∧ Ab ≠ D
  u : U3 M S D w0 w
section
variable {w0 w w' : World} {M S D Ab : Nat} {lv : Value} {zs : List Int} {hd : Int} {fs nx : Value} {se th li it tr : Int} {L : List Int} {c : Int}
theorem Mst.lt (h : Mst w0 w M S D lv Ab zs hd fs nx se th li it tr L c) : M < w.heap.size := (Array.getElem?_eq_some_iff.1 h.mem).1
theorem Mst.f (h : Mst w0 w M S D lv Ab zs hd fs nx se th li it tr L c) (j : Nat) : w.frozen? ⟨M, j, none⟩ = false := frozen_of_row w M j _ _ h.mem
theorem Mst.c0 (h : Mst w0 w M S D lv Ab zs hd fs nx se th li it tr L c) : w.cell? ⟨M, 0, none⟩ = some (.int .i64 hd) := by have := h.mem; unfold Mem at this; simp [World.cell?, this]
theorem Mst.c1 (h : Mst w0 w M S D lv Ab zs hd fs nx se th li it tr L c) : w.cell? ⟨M, 1, none⟩ = some (lv) := by have := h.mem; unfold Mem at this; simp [World.cell?, this]
theorem Mst.c2 (h : Mst w0 w M S D lv Ab zs hd fs nx se th li it tr L c) : w.cell? ⟨M, 2, none⟩ = some (fs) := by have := h.mem; unfold Mem at this; simp [World.cell?, this]
theorem Mst.c3 (h : Mst w0 w M S D lv Ab zs hd fs nx se th li it tr L c) : w.cell? ⟨M, 3, none⟩ = some (nx) := by have := h.mem; unfold Mem at this; simp [World.cell?, this]
theorem Mst.c4 (h : Mst w0 w M S D lv Ab zs hd fs nx se th li it tr L c) : w.cell? ⟨M, 4, none⟩ = some (.int .u64 se) := by have := h.mem; unfold Mem at this; simp [World.cell?, this]
theorem Mst.c5 (h : Mst w0 w M S D lv Ab zs hd fs nx se th li it tr L c) : w.cell? ⟨M, 5, none⟩ = some (.int .u32 th) := by have := h.mem; unfold Mem at this; simp [World.cell?, this]
theorem Mst.c6 (h : Mst w0 w M S D lv Ab zs hd fs nx se th li it tr L c) : w.cell? ⟨M, 6, none⟩ = some (.int .u32 li) := by have := h.mem; unfold Mem at this; simp [World.cell?, this]
theorem Mst.c7 (h : Mst w0 w M S D lv Ab zs hd fs nx se th li it tr L c) : w.cell? ⟨M, 7, none⟩ = some (.int .u32 it) := by have := h.mem; unfold Mem at this; simp [World.cell?, this]
theorem Mst.c8 (h : Mst w0 w M S D lv Ab zs hd fs nx se th li it tr L c) : w.cell? ⟨M, 8, none⟩ = some (.int .i64 tr) := by have := h.mem; unfold Mem at this; simp [World.cell?, this]
theorem Mst.left (h : Mst w0 w M S D lv Ab zs hd fs nx se th li it tr L c) {L' : List Int} {c' : Int} (k : Left S D L' c' w w') : Mst w0 w' M S D lv Ab zs hd fs nx se th li it tr L' c' :=
  ⟨(k.2.block M h.lt h.n1 h.n2).trans h.mem, k.1, h.n1, h.n2, h.lk.u3 (M := M) (.of_upd k.2) h.b2, h.b2, h.u.trans (.of_upd k.2)⟩
theorem Mst.step (h : Mst w0 w M S D lv Ab zs hd fs nx se th li it tr L c) (k : Below w.heap.size w w') : Mst w0 w' M S D lv Ab zs hd fs nx se th li it tr L c :=
  ⟨(k.block M h.lt).trans h.mem, h.st.below k, h.n1, h.n2, h.lk.below k, h.b2, h.u.trans (.of_below k)⟩
theorem Mst.drew (h : Mst w0 w M S D lv Ab zs hd fs nx se th li it tr L c) : Mst w0 w.drew M S D lv Ab zs hd fs nx se th li it tr L c := h.step (Below.refl _ _).drew
theorem Mst.put (h : Mst w0 w M S D lv Ab zs hd fs nx se th li it tr L c) (i : Nat) (y : Value) {fs' nx' : Value} {se' th' li' it' tr' : Int}
    (hh : (#[.int .i64 hd, lv, fs, nx, .int .u64 se, .int .u32 th, .int .u32 li, .int .u32 it, .int .i64 tr] : Array Value).setIfInBounds i y = #[.int .i64 hd, lv, fs', nx', .int .u64 se', .int .u32 th', .int .u32 li', .int .u32 it', .int .i64 tr']) :
    Mst w0 (w.setCell ⟨M, i, none⟩ y) M S D lv Ab zs hd fs' nx' se' th' li' it' tr' L c := by
  have u : U3 M M M w (w.setCell ⟨M, i, none⟩ y) := ⟨rfl, rfl, rfl, by simp, fun k hk h1 _ _ => heap_setCell_other w ⟨M, i, none⟩ k y h1⟩
  refine ⟨?_, ?_, h.n1, h.n2, h.lk.u3 u ⟨h.b2.1, h.b2.1, h.b2.1⟩, h.b2, h.u.setM i y⟩
  · unfold Mem
    rw [heap_setCell_same w M i _ 208 _ h.mem, hh]
  · have u : Upd M M w (w.setCell ⟨M, i, none⟩ y) := ⟨rfl, rfl, rfl, by simp, fun k hk h1 _ => heap_setCell_other w ⟨M, i, none⟩ k y h1⟩
    exact h.st.upd u (Ne.symm h.n1) (Ne.symm h.n1) (Ne.symm h.n2) (Ne.symm h.n2)
theorem Mst.p2 (h : Mst w0 w M S D lv Ab zs hd fs nx se th li it tr L c) (y : Value) : Mst w0 (w.setCell ⟨M, 2, none⟩ y) M S D lv Ab zs hd y nx se th li it tr L c := h.put 2 y rfl
theorem Mst.p3 (h : Mst w0 w M S D lv Ab zs hd fs nx se th li it tr L c) (y : Value) : Mst w0 (w.setCell ⟨M, 3, none⟩ y) M S D lv Ab zs hd fs y se th li it tr L c := h.put 3 y rfl
theorem Mst.p4 (h : Mst w0 w M S D lv Ab zs hd fs nx se th li it tr L c) (y : Int) : Mst w0 (w.setCell ⟨M, 4, none⟩ (.int .u64 y)) M S D lv Ab zs hd fs nx y th li it tr L c := h.put 4 _ rfl
theorem Mst.p5 (h : Mst w0 w M S D lv Ab zs hd fs nx se th li it tr L c) (y : Int) : Mst w0 (w.setCell ⟨M, 5, none⟩ (.int .u32 y)) M S D lv Ab zs hd fs nx se y li it tr L c := h.put 5 _ rfl
theorem Mst.p6 (h : Mst w0 w M S D lv Ab zs hd fs nx se th li it tr L c) (y : Int) : Mst w0 (w.setCell ⟨M, 6, none⟩ (.int .u32 y)) M S D lv Ab zs hd fs nx se th y it tr L c := h.put 6 _ rfl
theorem Mst.p7 (h : Mst w0 w M S D lv Ab zs hd fs nx se th li it tr L c) (y : Int) : Mst w0 (w.setCell ⟨M, 7, none⟩ (.int .u32 y)) M S D lv Ab zs hd fs nx se th li y tr L c := h.put 7 _ rfl
theorem Mst.p8 (h : Mst w0 w M S D lv Ab zs hd fs nx se th li it tr L c) (y : Int) : Mst w0 (w.setCell ⟨M, 8, none⟩ (.int .i64 y)) M S D lv Ab zs hd fs nx se th li it y L c := h.put 8 _ rfl
end
end Go.Proofs.YtpocihddecemfaaGreat

namespace Go.Proofs.YtpocihddecemfaaGreat
open Go.RowKit
set_option linter.unusedVariables false
variable {w0 : World} {M S D Ab : Nat} {lv : Value} {zs : List Int} {hd : Int} {fs nx : Value} {se th li it tr : Int} {L : List Int} {c : Int}

/-- All words are words. -/
def WW (L : List Int) : Prop := ∀ x ∈ L, 0 ≤ x ∧ x ≤ 18446744073709551615
theorem WW.ld (h : WW L) (a : Int) : 0 ≤ ldv L a ∧ ldv L a ≤ 18446744073709551615 := by
  unfold ldv; split
  · rename_i hh
    have hl := in_yes hh
    have hl2 : a.toNat < L.length := by omega
    rw [List.getD, List.getElem?_eq_getElem hl2]
    exact h _ (List.getElem_mem hl2)
  · omega

theorem Mst.fin {w : World} (h : Mst w0 w M S D lv Ab zs hd fs nx se th li it tr L c) (o : Int) :
    Mst w0 ((w.setCell ⟨M, 3, none⟩ .nilFunc).setCell ⟨M, 7, none⟩ (.int .u32 o)) M S D lv Ab zs hd fs .nilFunc se th li o tr L c := (h.p3 _).p7 _
set_option maxHeartbeats 1000000 in
theorem finish_any (o : Int) (w : World) (h : Mst w0 w M S D lv Ab zs hd fs nx se th li it tr L c) :
    Calls Tryz.prog 168 #[ptr M, .int .u32 o] w fun a w' => a = .returned (.tuple #[]) ∧ Mst w0 w' M S D lv Ab zs hd fs .nilFunc se th li o tr L c := by
  have HL := Lib.hid (h.fin o)
  have c3 := h.c3; have f3 := h.f 3; have c7 := h.c7; have f7 := h.f 7
  clear h
  go_enter Tryz.func168, Tryz.ntmps168
  go_wp2
  go_returns
  exact ⟨rfl, HL.out⟩

set_option maxHeartbeats 1000000 in
theorem see_any (w : World) (h : Mst w0 w M S D lv Ab zs hd fs nx se th li it tr L c) (h0 : 0 ≤ c) (h1 : c ≤ 1000000000) (t0 : 0 ≤ tr) (t1 : tr ≤ 1000000000) (ww : WW L) :
    Calls Tryz.prog 167 #[ptr M, ptr S] w fun a w' => a = .returned (.int .u32 (lowOf (ldv L hd))) ∧ Mst w0 w' M S D lv Ab zs hd fs nx (ldv L hd) th li it (tr + 1) L (c + 1) := by
  have c8 := h.c8; have f8 := h.f 8
  have HK := Lib.hid (h.p8 (tr + 1)); clear h
  have c0 := HK.out.c0
  obtain ⟨y, hy⟩ : ∃ y, y = ldv L hd := ⟨_, rfl⟩
  rw [← hy]
  have HY := Lib.hid hy
  have y0 : 0 ≤ y := by rw [hy]; exact (ww.ld hd).1
  have y1 : y ≤ 18446744073709551615 := by rw [hy]; exact (ww.ld hd).2
  clear hy ww
  go_enter Tryz.func167, Tryz.ntmps167
  go_wp2_with (first
    | (go_at_call 27; (with_reducible refine (load_any _ _ HK.out.st h0 h1).mono ?_); rintro r w1 ⟨rfl, hk⟩; rw [← HY.out]; have HQ := Lib.hid (HK.out.left hk); have c4 := HQ.out.c4; have f4 := HQ.out.f 4; have HL := Lib.hid (HQ.out.p4 y); clear hk)
    | (go_at_call 172; (with_reducible refine (low_any _ y0 y1 _).mono ?_); rintro r w2 ⟨rfl, hb⟩; have HE := Lib.hid (HL.out.step hb); clear hb)
    | fail)
  go_ret
  exact ⟨rfl, HE.out⟩

set_option maxHeartbeats 1000000 in
theorem seeHead_any (w : World) (h : Mst w0 w M S D lv Ab zs hd fs nx se th li it tr L c) (h0 : 0 ≤ c) (h1 : c ≤ 1000000000) (t0 : 0 ≤ tr) (t1 : tr ≤ 1000000000) (ww : WW L) :
    Calls Tryz.prog 183 #[ptr M, ptr S] w fun a w' => a = .returned (.tuple #[]) ∧ Mst w0 w' M S D lv Ab zs hd fs (fnv 185 M) (ldv L hd) th (lowOf (ldv L hd)) it (tr + 1) L (c + 1) := by
  have hmf : ∀ (fn : Fn) (first cap : Array Value) (w : World), (Instr.makeFunc fn first cap).run Tryz.prog w = .ok (.func fn first cap) w := fun _ _ _ _ => rfl
  have H := Lib.hid h; clear h
  go_enter Tryz.func183, Tryz.ntmps183
  go_wp2_with (first
    | (go_at_call 167; (with_reducible refine (see_any _ H.out h0 h1 t0 t1 ww).mono ?_); rintro r w1 ⟨rfl, hk⟩; have HQ := Lib.hid hk; clear hk; have c6 := HQ.out.c6; have f6 := HQ.out.f 6; have HP := Lib.hid (HQ.out.p6 (lowOf (ldv L hd))); have c3 := HP.out.c3; have f3 := HP.out.f 3; have HL := Lib.hid (HP.out.p3 (fnv 185 M)))
    | fail)
  go_returns
  exact ⟨rfl, HL.out⟩

set_option maxHeartbeats 1000000 in
theorem seeThing_any (w : World) (h : Mst w0 w M S D lv Ab zs hd fs nx se th li it tr L c) (h0 : 0 ≤ c) (h1 : c ≤ 1000000000) (t0 : 0 ≤ tr) (t1 : tr ≤ 1000000000) (ww : WW L) :
    Calls Tryz.prog 165 #[ptr M, ptr S] w fun a w' => a = .returned (.tuple #[]) ∧
      Mst w0 w' M S D lv Ab zs hd fs (if lowOf (ldv L hd) = 0 then .nilFunc else fnv 169 M) (ldv L hd) (lowOf (ldv L hd)) li (if lowOf (ldv L hd) = 0 then 0 else it) (tr + 1) L (c + 1) := by
  have hmf : ∀ (fn : Fn) (first cap : Array Value) (w : World), (Instr.makeFunc fn first cap).run Tryz.prog w = .ok (.func fn first cap) w := fun _ _ _ _ => rfl
  have H := Lib.hid h; clear h
  obtain ⟨y, hy⟩ : ∃ y, y = lowOf (ldv L hd) := ⟨_, rfl⟩
  rw [← hy]
  have HY := Lib.hid hy; clear hy
  by_cases hz : y = 0
  · rw [if_pos hz, if_pos hz]
    have hz2 : (y == 0) = true := by simpa using hz
    subst hz
    go_enter Tryz.func165, Tryz.ntmps165
    go_wp2_with (first
      | (go_at_call 167; (with_reducible refine (see_any _ H.out h0 h1 t0 t1 ww).mono ?_); rintro r w1 ⟨rfl, hk⟩; rw [← HY.out]; have HQ := Lib.hid hk; clear hk; have c5 := HQ.out.c5; have f5 := HQ.out.f 5; have HP := Lib.hid (HQ.out.p5 0); have d5 := HP.out.c5)
      | (go_at_call 168; (with_reducible refine (finish_any 0 _ HP.out).mono ?_); rintro r w2 ⟨rfl, hk⟩; have HL := Lib.hid hk; clear hk)
      | fail)
    go_returns
    exact ⟨rfl, HL.out⟩
  · rw [if_neg hz, if_neg hz]
    have hz2 : (y == 0) = false := by simpa using hz
    go_enter Tryz.func165, Tryz.ntmps165
    go_wp2_with (first
      | (go_at_call 167; (with_reducible refine (see_any _ H.out h0 h1 t0 t1 ww).mono ?_); rintro r w1 ⟨rfl, hk⟩; rw [← HY.out]; have HQ := Lib.hid hk; clear hk; have c5 := HQ.out.c5; have f5 := HQ.out.f 5; have HP := Lib.hid (HQ.out.p5 y); have d5 := HP.out.c5; have c3 := HP.out.c3; have f3 := HP.out.f 3; have HL := Lib.hid (HP.out.p3 (fnv 169 M)))
      | fail)
    go_returns
    exact ⟨rfl, HL.out⟩
end Go.Proofs.YtpocihddecemfaaGreat

namespace Go.Proofs.YtpocihddecemfaaGreat
open Go.RowKit
set_option linter.unusedVariables false
variable {w0 : World} {M S D Ab g : Nat} {lv : Value} {zs : List Int} {hd : Int} {fs nx : Value} {se th li it tr : Int} {L : List Int} {c : Int}

theorem Mst.cs {w : World} (h : Mst w0 w M S D lv Ab zs hd fs nx se th li it tr L c) :
    w.cell? ⟨M, 0, none⟩ = some (.int .i64 hd) ∧ w.cell? ⟨M, 1, none⟩ = some (lv) ∧ w.cell? ⟨M, 4, none⟩ = some (.int .u64 se) ∧ w.cell? ⟨M, 5, none⟩ = some (.int .u32 th) ∧ w.cell? ⟨M, 6, none⟩ = some (.int .u32 li) :=
  ⟨h.c0, h.c1, h.c4, h.c5, h.c6⟩

theorem Mst.cs4 {w : World} (h : Mst w0 w M S D lv Ab zs hd fs nx se th li it tr L c) :
    w.cell? ⟨M, 0, none⟩ = some (.int .i64 hd) ∧ w.cell? ⟨M, 1, none⟩ = some (lv) ∧ w.cell? ⟨M, 4, none⟩ = some (.int .u64 se) ∧ w.cell? ⟨M, 5, none⟩ = some (.int .u32 th) :=
  ⟨h.c0, h.c1, h.c4, h.c5⟩

set_option maxHeartbeats 1000000 in
theorem putLink_any (w : World) (h : Mst w0 w M S D lv Ab zs hd fs nx se th li it tr L c) (h0 : 0 ≤ c) (h1 : c ≤ 1000000000) (t0 : 0 ≤ th) (t1 : th ≤ 4294967295) (l0 : 0 ≤ li) (l1 : li ≤ 4294967295) :
    Calls Tryz.prog 185 #[ptr M, ptr S] w fun a w' => a = .returned (.tuple #[]) ∧ Mst w0 w' M S D lv Ab zs hd fs (fnv 186 M) se th li it tr (ptv L (atOf zs th) li) (c + 1) := by
  have hmf : ∀ (fn : Fn) (first cap : Array Value) (w : World), (Instr.makeFunc fn first cap).run Tryz.prog w = .ok (.func fn first cap) w := fun _ _ _ _ => rfl
  obtain ⟨q0, q1, q4, q5, q6⟩ := h.cs
  have HMD := Lib.hid h.drew; clear h
  have ew : IntKind.u64.wrap li = li := by rw [IntKind.wrap_u64]; omega
  go_enter Tryz.func185, Tryz.ntmps185
  go_wp2
  go_region_held3 (fun w' => w'.cell? ⟨M, 0, none⟩ = some (.int .i64 hd) ∧ w'.cell? ⟨M, 1, none⟩ = some (lv) ∧ w'.cell? ⟨M, 4, none⟩ = some (.int .u64 se) ∧ w'.cell? ⟨M, 5, none⟩ = some (.int .u32 th) ∧ w'.cell? ⟨M, 6, none⟩ = some (.int .u32 li))
    (first | exact HQ.out.cs | exact HN.out.cs | exact HMD.out.cs | go_keep)
    (first
      | (go_at_call 173; (with_reducible refine (place_any _ _ HMD.out.lk t0 t1).mono ?_); rintro r w3 ⟨rfl, hb⟩; have HN := Lib.hid (HMD.out.step hb); clear hb)
      | (go_at_call 21; (with_reducible refine (put_any _ _ _ HN.out.st h0 h1).mono ?_); rintro r w4 ⟨rfl, hk⟩; have HQ := Lib.hid (HN.out.left hk); clear hk; have c3 := HQ.out.c3; have f3 := HQ.out.f 3; have HL := Lib.hid (HQ.out.p3 (fnv 186 M)))
      | fail)
  go_wp2
  go_returns
  exact ⟨rfl, HL.out⟩

set_option maxHeartbeats 1000000 in
theorem seeLink_any (w : World) (h : Mst w0 w M S D lv Ab zs hd fs nx se th li it tr L c) (h0 : 0 ≤ c) (h1 : c ≤ 1000000000) (t0 : 0 ≤ th) (t1 : th ≤ 4294967295) (ww : WW L) :
    Calls Tryz.prog 169 #[ptr M, ptr S] w fun a w' => a = .returned (.tuple #[]) ∧ Mst w0 w' M S D lv Ab zs hd fs (fnv 174 M) se th (lowOf (ldv L (atOf zs th))) it tr L (c + 1) := by
  have hmf : ∀ (fn : Fn) (first cap : Array Value) (w : World), (Instr.makeFunc fn first cap).run Tryz.prog w = .ok (.func fn first cap) w := fun _ _ _ _ => rfl
  obtain ⟨q0, q1, q4, q5, q6⟩ := h.cs
  have HMD := Lib.hid h.drew; clear h
  obtain ⟨y, hy⟩ : ∃ y, y = ldv L (atOf zs th) := ⟨_, rfl⟩
  rw [← hy]
  have HY := Lib.hid hy
  have y0 : 0 ≤ y := by rw [hy]; exact (ww.ld _).1
  have y1 : y ≤ 18446744073709551615 := by rw [hy]; exact (ww.ld _).2
  clear hy ww
  obtain ⟨v, hv⟩ : ∃ v, v = lowOf y := ⟨_, rfl⟩
  rw [← hv]
  have HV := Lib.hid hv; clear hv
  go_enter Tryz.func169, Tryz.ntmps169
  go_wp2
  go_region_held3 (fun w' => w'.cell? ⟨M, 0, none⟩ = some (.int .i64 hd) ∧ w'.cell? ⟨M, 1, none⟩ = some (lv) ∧ w'.cell? ⟨M, 4, none⟩ = some (.int .u64 se) ∧ w'.cell? ⟨M, 5, none⟩ = some (.int .u32 th))
    (first | exact HL.out.cs4 | exact HR.out.cs4 | exact HQ.out.cs4 | exact HN.out.cs4 | exact HMD.out.cs4 | go_keep)
    (first
      | (go_at_call 173; (with_reducible refine (place_any _ _ HMD.out.lk t0 t1).mono ?_); rintro r w3 ⟨rfl, hb⟩; have HN := Lib.hid (HMD.out.step hb); clear hb)
      | (go_at_call 27; (with_reducible refine (load_any _ _ HN.out.st h0 h1).mono ?_); rintro r w4 ⟨rfl, hk⟩; rw [← HY.out]; have HQ := Lib.hid (HN.out.left hk); clear hk)
      | (go_at_call 172; (with_reducible refine (low_any _ y0 y1 _).mono ?_); rintro r w5 ⟨rfl, hb⟩; rw [← HV.out]; have HR := Lib.hid (HQ.out.step hb); clear hb; have c6 := HR.out.c6; have f6 := HR.out.f 6; have HL := Lib.hid (HR.out.p6 v))
      | fail)
  have c3 := HL.out.c3; have f3 := HL.out.f 3; have HF := Lib.hid (HL.out.p3 (fnv 174 M))
  go_wp2
  go_returns
  exact ⟨rfl, HF.out⟩

/-- What a turn leaves. -/
def Turned (w0 : World) (M S D : Nat) (lv : Value) (Ab : Nat) (zs : List Int) (hd : Int) (fs : Value) (se th li it tr : Int) (L : List Int) (c x : Int) (w' : World) : Prop :=
  Mst w0 w' M S D lv Ab zs hd fs (if swB L hd se = true then .nilFunc else fs) se th li (if swB L hd se = true then th else it) tr (swv L hd se (turnOf se x)) (c + 1)

set_option maxHeartbeats 2000000 in
theorem turn2_any (x : Int) (w : World) (h : Mst w0 w M S D lv Ab zs hd (fnv g M) nx se th li it tr L c) (h0 : 0 ≤ c) (h1 : c ≤ 1000000000) (s0 : 0 ≤ se) (s1 : se ≤ 18446744073709551615) (x0 : 0 ≤ x) (x1 : x ≤ 4294967295) :
    Calls Tryz.prog 180 #[ptr M, ptr S, .int .u32 x] w fun a w' => a = .returned (.tuple #[]) ∧ Turned w0 M S D lv Ab zs hd (fnv g M) se th li it tr L c x w' := by
  obtain ⟨q0, q1, q4, q5⟩ := h.cs4
  have HMD := Lib.hid h.drew; clear h
  unfold Turned
  obtain ⟨b, hb⟩ : ∃ b, b = swB L hd se := ⟨_, rfl⟩
  obtain ⟨L', hL'⟩ : ∃ L', L' = swv L hd se (turnOf se x) := ⟨_, rfl⟩
  rw [← hb, ← hL']
  have HB := Lib.hid hb; have HW := Lib.hid hL'
  clear hb hL'
  cases b
  · simp only [Bool.false_eq_true, if_false]
    go_enter Tryz.func180, Tryz.ntmps180
    go_wp2
    go_region_held3 (fun w' => w'.cell? ⟨M, 0, none⟩ = some (.int .i64 hd) ∧ w'.cell? ⟨M, 1, none⟩ = some (lv) ∧ w'.cell? ⟨M, 4, none⟩ = some (.int .u64 se) ∧ w'.cell? ⟨M, 5, none⟩ = some (.int .u32 th))
      (first | exact HQ.out.cs4 | exact HN.out.cs4 | exact HMD.out.cs4 | go_keep)
      (first
        | (go_at_call 184; (with_reducible refine (turnw_any _ _ s0 s1 x0 x1 _).mono ?_); rintro r w3 ⟨rfl, hb⟩; have HN := Lib.hid (HMD.out.step hb); clear hb)
        | (go_at_call 155; (with_reducible refine (swap_any _ _ _ _ HN.out.st h0 h1).mono ?_); rintro r w4 ⟨rfl, hk⟩; rw [← HB.out]; rw [← HW.out] at hk; have HQ := Lib.hid (HN.out.left hk); clear hk)
        | fail)
    have c2 := HQ.out.c2; have c3 := HQ.out.c3; have f3 := HQ.out.f 3; have HF := Lib.hid (HQ.out.p3 (fnv g M))
    go_wp2
    go_returns
    exact ⟨rfl, HF.out⟩
  · simp only [if_true]
    go_enter Tryz.func180, Tryz.ntmps180
    go_wp2
    go_region_held3 (fun w' => w'.cell? ⟨M, 0, none⟩ = some (.int .i64 hd) ∧ w'.cell? ⟨M, 1, none⟩ = some (lv) ∧ w'.cell? ⟨M, 4, none⟩ = some (.int .u64 se) ∧ w'.cell? ⟨M, 5, none⟩ = some (.int .u32 th))
      (first | exact HQ.out.cs4 | exact HN.out.cs4 | exact HMD.out.cs4 | go_keep)
      (first
        | (go_at_call 184; (with_reducible refine (turnw_any _ _ s0 s1 x0 x1 _).mono ?_); rintro r w3 ⟨rfl, hb⟩; have HN := Lib.hid (HMD.out.step hb); clear hb)
        | (go_at_call 155; (with_reducible refine (swap_any _ _ _ _ HN.out.st h0 h1).mono ?_); rintro r w4 ⟨rfl, hk⟩; rw [← HB.out]; rw [← HW.out] at hk; have HQ := Lib.hid (HN.out.left hk); clear hk)
        | fail)
    have c5 := HQ.out.c5
    go_wp2_with (first
      | (go_at_call 168; (with_reducible refine (finish_any _ _ HQ.out).mono ?_); rintro r w5 ⟨rfl, hk⟩; have HF := Lib.hid hk; clear hk)
      | fail)
    go_returns
    exact ⟨rfl, HF.out⟩

set_option maxHeartbeats 1000000 in
theorem showThing_any (w : World) (h : Mst w0 w M S D lv Ab zs hd (fnv g M) nx se th li it tr L c) (h0 : 0 ≤ c) (h1 : c ≤ 1000000000) (s0 : 0 ≤ se) (s1 : se ≤ 18446744073709551615) (x0 : 0 ≤ th) (x1 : th ≤ 4294967295) :
    Calls Tryz.prog 186 #[ptr M, ptr S] w fun a w' => a = .returned (.tuple #[]) ∧ Turned w0 M S D lv Ab zs hd (fnv g M) se th li it tr L c th w' := by
  have c5 := h.c5
  have H := Lib.hid h; clear h
  go_enter Tryz.func186, Tryz.ntmps186
  go_wp2_with (first
    | (go_at_call 180; (with_reducible refine (turn2_any _ _ H.out h0 h1 s0 s1 x0 x1).mono ?_); rintro r w5 ⟨rfl, hk⟩; have HF := Lib.hid hk; clear hk)
    | fail)
  go_returns
  exact ⟨rfl, HF.out⟩
set_option maxHeartbeats 1000000 in
theorem takeThing_any (w : World) (h : Mst w0 w M S D lv Ab zs hd (fnv g M) nx se th li it tr L c) (h0 : 0 ≤ c) (h1 : c ≤ 1000000000) (s0 : 0 ≤ se) (s1 : se ≤ 18446744073709551615) (x0 : 0 ≤ li) (x1 : li ≤ 4294967295) :
    Calls Tryz.prog 174 #[ptr M, ptr S] w fun a w' => a = .returned (.tuple #[]) ∧ Turned w0 M S D lv Ab zs hd (fnv g M) se th li it tr L c li w' := by
  have c6 := h.c6
  have H := Lib.hid h; clear h
  go_enter Tryz.func174, Tryz.ntmps174
  go_wp2_with (first
    | (go_at_call 180; (with_reducible refine (turn2_any _ _ H.out h0 h1 s0 s1 x0 x1).mono ?_); rintro r w5 ⟨rfl, hk⟩; have HF := Lib.hid hk; clear hk)
    | fail)
  go_returns
  exact ⟨rfl, HF.out⟩
end Go.Proofs.YtpocihddecemfaaGreat

namespace Go.Proofs.YtpocihddecemfaaGreat
open Go.RowKit
set_option linter.unusedVariables false
set_option linter.unusedSimpArgs false

theorem ldv_eq (L : List Int) (a : Int) : ldv L a = ldq L a := by
  unfold ldv ldq inB; simp
theorem ptv_eq (L : List Int) (a v : Int) : ptv L a v = ptq L a v := by
  unfold ptv ptq inB; simp
theorem low_eq (x : Int) : lowOf x = low x := rfl
theorem turn_eq (x n : Int) : turnOf x n = turnw x n := rfl
theorem swB_iff (L : List Int) (a o : Int) : swB L a o = true ↔ ((0 ≤ a ∧ a < L.length) ∧ L.getD a.toNat 0 = o) := by
  unfold swB inB; simp
theorem swv_eq (L : List Int) (a o v : Int) : swv L a o v = if (0 ≤ a ∧ a < L.length) ∧ L.getD a.toNat 0 = o then ptq L a v else L := by
  unfold swv
  by_cases h : (0 ≤ a ∧ a < L.length) ∧ L.getD a.toNat 0 = o
  · rw [if_pos ((swB_iff ..).2 h), if_pos h]; unfold ptq; rw [if_pos h.1]
  · rw [if_neg (fun h2 => h ((swB_iff ..).1 h2)), if_neg h]

/-- The function that does a machine's next step, and its first one. -/
def ffn (m : Sm) : Nat := if m.kind = 1 then 183 else 165
def nfn (m : Sm) : Nat := if m.kind = 1 then (if m.pc = 1 then 183 else if m.pc = 2 then 185 else 186) else (if m.pc = 1 then 165 else if m.pc = 2 then 169 else 174)
def nxt (M : Nat) (m : Sm) : Value := if m.pc = 0 then .nilFunc else fnv (nfn m) M
theorem nxt_no {M : Nat} {m : Sm} (h : m.pc = 0) : nxt M m = .nilFunc := by simp [nxt, h]
theorem nxt_at {M : Nat} {m : Sm} (h : m.pc ≠ 0) : nxt M m = fnv (nfn m) M := by simp [nxt, h]
/-- A machine in memory. -/
def Mi (w0 w : World) (M S D : Nat) (lv : Value) (Ab : Nat) (m : Sm) (L : List Int) (c : Int) : Prop :=
  Mst w0 w M S D lv Ab m.k.links m.k.head (fnv (ffn m) M) (nxt M m) m.h m.item m.link (sItem m) m.tries L c
/-- What it knows are words; it has begun t times at most. -/
structure Wm (t : Int) (m : Sm) : Prop where
  kd : m.kind = 1 ∨ m.kind = 2
  pc : m.pc ≤ 3
  h : 0 ≤ m.h ∧ m.h ≤ 18446744073709551615
  i : 0 ≤ m.item ∧ m.item ≤ 4294967295
  l : 0 ≤ m.link ∧ m.link ≤ 4294967295
  t : 0 ≤ m.tries ∧ m.tries ≤ t

theorem Wm.mono {t u : Int} {m : Sm} (h : Wm t m) (k : t ≤ u) : Wm u m := ⟨h.kd, h.pc, h.h, h.i, h.l, by have := h.t; omega⟩
theorem low_rng (x : Int) : 0 ≤ low x ∧ low x ≤ 4294967295 := by unfold low; omega
theorem WW.ldq {L : List Int} (h : WW L) (a : Int) : 0 ≤ ldq L a ∧ YtpocihddecemfaaGreat.ldq L a ≤ 18446744073709551615 := by rw [← ldv_eq]; exact h.ld a
theorem ite_ind {α : Type} {P : α → Prop} {q : Prop} [Decidable q] {a b : α} (ha : P a) (hb : P b) : P (if q then a else b) := by split <;> assumption
theorem Wm.swap {t x : Int} {m : Sm} {L : List Int} (h : Wm t m) : Wm t (swapS L m x).2 := by
  unfold swapS
  refine ite_ind (P := fun z : List Int × Sm => Wm t z.2) ?_ ?_
  · exact ⟨h.kd, Nat.zero_le _, h.h, h.i, h.l, h.t⟩
  · exact ⟨h.kd, (by simp : (1 : Nat) ≤ 3), h.h, h.i, h.l, h.t⟩
theorem Wm.step {t : Int} {m : Sm} {L : List Int} (h : Wm t m) (ww : WW L) : Wm (t + 1) (sstp L m).2 := by
  have hm := h.mono (u := t + 1) (by omega)
  have q := ww.ldq
  have ht := h.t
  unfold sstp
  refine ite_ind (P := fun z : List Int × Sm => Wm (t + 1) z.2) hm ?_
  refine ite_ind (P := fun z : List Int × Sm => Wm (t + 1) z.2) (ite_ind (P := fun z : List Int × Sm => Wm (t + 1) z.2) ?_ (ite_ind (P := fun z : List Int × Sm => Wm (t + 1) z.2) ?_ ?_)) ?_
  · exact ⟨h.kd, (by simp : (2 : Nat) ≤ 3), q _, h.i, low_rng _, by simp only; omega⟩
  · exact ⟨h.kd, Nat.zero_le _, q _, by simp only; omega, h.l, by simp only; omega⟩
  · exact ⟨h.kd, (by simp : (2 : Nat) ≤ 3), q _, low_rng _, h.l, by simp only; omega⟩
  refine ite_ind (P := fun z : List Int × Sm => Wm (t + 1) z.2) (ite_ind (P := fun z : List Int × Sm => Wm (t + 1) z.2) ?_ ?_) (ite_ind (P := fun z : List Int × Sm => Wm (t + 1) z.2) hm.swap hm.swap)
  · exact ⟨h.kd, (by simp : (3 : Nat) ≤ 3), h.h, h.i, h.l, hm.t⟩
  · exact ⟨h.kd, (by simp : (3 : Nat) ≤ 3), h.h, h.i, low_rng _, hm.t⟩
theorem WW.put {L : List Int} (h : WW L) (a : Int) {v : Int} (hv : 0 ≤ v ∧ v ≤ 18446744073709551615) : WW (ptq L a v) := by
  unfold ptq; split
  · intro x hx
    rcases List.mem_or_eq_of_mem_set hx with h2 | rfl
    · exact h x h2
    · exact hv
  · exact h
theorem turnw_rng {x n : Int} (hn : 0 ≤ n ∧ n ≤ 4294967295) : 0 ≤ turnw x n ∧ turnw x n ≤ 18446744073709551615 := by unfold turnw; omega
theorem WW.swap {L : List Int} {m : Sm} {x : Int} (h : WW L) (hx : 0 ≤ x ∧ x ≤ 4294967295) : WW (swapS L m x).1 := by
  unfold swapS
  exact ite_ind (P := fun z : List Int × Sm => WW z.1) (h.put _ (turnw_rng hx)) h
theorem WW.step {t : Int} {L : List Int} {m : Sm} (h : WW L) (hm : Wm t m) : WW (sstp L m).1 := by
  unfold sstp
  refine ite_ind (P := fun z : List Int × Sm => WW z.1) h ?_
  refine ite_ind (P := fun z : List Int × Sm => WW z.1) (ite_ind (P := fun z : List Int × Sm => WW z.1) h (ite_ind (P := fun z : List Int × Sm => WW z.1) h h)) ?_
  have hl := hm.l
  exact ite_ind (P := fun z : List Int × Sm => WW z.1) (ite_ind (P := fun z : List Int × Sm => WW z.1) (h.put _ (by omega)) h) (ite_ind (P := fun z : List Int × Sm => WW z.1) (h.swap hm.i) (h.swap hm.l))

section
variable {w0 w w' : World} {M S D Ab : Nat} {lv : Value} {m : Sm} {L : List Int} {c t : Int}
theorem Mi.of {m' : Sm} {zs : List Int} {hd : Int} {fs nx : Value} {se th li it tr : Int} (h : Mst w0 w M S D lv Ab zs hd fs nx se th li it tr L c)
    (h1 : m'.k.links = zs) (h2 : m'.k.head = hd) (h3 : fnv (ffn m') M = fs) (h4 : nxt M m' = nx) (h5 : m'.h = se) (h6 : m'.item = th) (h7 : m'.link = li) (h8 : sItem m' = it) (h9 : m'.tries = tr) : Mi w0 w M S D lv Ab m' L c := by
  subst h1 h2 h3 h4 h5 h6 h7 h8 h9; exact h
theorem Mi.at (h : Mi w0 w M S D lv Ab m L c) (hp : m.pc ≠ 0) : Mst w0 w M S D lv Ab m.k.links m.k.head (fnv (ffn m) M) (fnv (nfn m) M) m.h m.item m.link 0 m.tries L c := by
  have e : sItem m = 0 := by unfold sItem; rw [if_neg hp]
  have h' := h
  unfold Mi at h'
  rw [nxt_at hp, e] at h'
  exact h'

/-- A turn. -/
theorem turned_mi {w' : World} {x : Int} (hp : m.pc ≠ 0) (hk : m.kind = 1 ∨ m.kind = 2) (h : Turned w0 M S D lv Ab m.k.links m.k.head (fnv (ffn m) M) m.h m.item m.link 0 m.tries L c x w') :
    Mi w0 w' M S D lv Ab (swapS L m x).2 (swapS L m x).1 (c + 1) := by
  unfold Turned at h
  rw [swv_eq, turn_eq] at h
  unfold swapS
  by_cases hc : (0 ≤ m.k.head ∧ m.k.head < L.length) ∧ L.getD m.k.head.toNat 0 = m.h
  · rw [if_pos hc]
    have e := (swB_iff ..).2 hc
    rw [e, if_pos rfl, if_pos rfl, if_pos hc] at h
    exact Mi.of h rfl rfl rfl rfl rfl rfl rfl rfl rfl
  · rw [if_neg hc]
    have e : swB L m.k.head m.h = false := by
      cases hb : swB L m.k.head m.h with
      | false => rfl
      | true => exact absurd ((swB_iff ..).1 hb) hc
    rw [e, if_neg (by simp), if_neg (by simp), if_neg hc] at h
    refine Mi.of h rfl rfl rfl ?_ rfl rfl rfl rfl rfl
    show (if (1 : Nat) = 0 then Value.nilFunc else _) = _
    rw [if_neg (by simp)]
    rcases hk with hk | hk <;> simp [nfn, ffn, hk]

theorem next_any (h : Mi w0 w M S D lv Ab m L c) (hp : m.pc ≠ 0) (wm : Wm t m) (ww : WW L) (h0 : 0 ≤ c) (h1 : c ≤ 1000000000) (ht : t ≤ 1000000000) :
    Calls Tryz.prog (nfn m) #[ptr M, ptr S] w fun a w' => a = .returned (.tuple #[]) ∧ Mi w0 w' M S D lv Ab (sstp L m).2 (sstp L m).1 (c + 1) := by
  have h' := h.at hp
  have t0 := wm.t
  have hpc := wm.pc
  rcases wm.kd with hk | hk
  · by_cases p1 : m.pc = 1
    · rw [show nfn m = 183 by simp [nfn, hk, p1]]
      refine (seeHead_any _ h' h0 h1 t0.1 (by omega) ww).mono ?_
      rintro a w' ⟨rfl, k⟩
      refine ⟨rfl, ?_⟩
      have es : sstp L m = (L, { m with pc := 2, h := ldq L m.k.head, link := low (ldq L m.k.head), tries := m.tries + 1 }) := push_first hk p1 rfl
      rw [es]
      rw [ldv_eq, low_eq] at k
      exact Mi.of k rfl rfl rfl (by simp [nxt, nfn, hk]) rfl rfl rfl rfl rfl
    · by_cases p2 : m.pc = 2
      · rw [show nfn m = 185 by simp [nfn, hk, p2]]
        refine (putLink_any _ h' h0 h1 wm.i.1 wm.i.2 wm.l.1 wm.l.2).mono ?_
        rintro a w' ⟨rfl, k⟩
        refine ⟨rfl, ?_⟩
        rw [push_link hk p2]
        rw [ptv_eq] at k
        exact Mi.of k rfl rfl rfl (by simp [nxt, nfn, hk]) rfl rfl rfl rfl rfl
      · have p3 : m.pc = 3 := by omega
        rw [show nfn m = 186 by simp [nfn, hk, p3]]
        refine (showThing_any _ h' h0 h1 wm.h.1 wm.h.2 wm.i.1 wm.i.2).mono ?_
        rintro a w' ⟨rfl, k⟩
        refine ⟨rfl, ?_⟩
        rw [push_swap hk p3]
        exact turned_mi hp wm.kd k
  · by_cases p1 : m.pc = 1
    · rw [show nfn m = 165 by simp [nfn, hk, p1]]
      refine (seeThing_any _ h' h0 h1 t0.1 (by omega) ww).mono ?_
      rintro a w' ⟨rfl, k⟩
      refine ⟨rfl, ?_⟩
      rw [ldv_eq, low_eq] at k
      rw [pop_first hk p1 rfl]
      by_cases hz : low (ldq L m.k.head) = 0
      · rw [if_pos hz]
        rw [if_pos hz, if_pos hz] at k
        exact Mi.of k rfl rfl rfl rfl rfl hz.symm rfl rfl rfl
      · rw [if_neg hz]
        rw [if_neg hz, if_neg hz] at k
        exact Mi.of k rfl rfl rfl (by simp [nxt, nfn, hk]) rfl rfl rfl rfl rfl
    · by_cases p2 : m.pc = 2
      · rw [show nfn m = 169 by simp [nfn, hk, p2]]
        refine (seeLink_any _ h' h0 h1 wm.i.1 wm.i.2 ww).mono ?_
        rintro a w' ⟨rfl, k⟩
        refine ⟨rfl, ?_⟩
        rw [pop_link hk p2]
        rw [ldv_eq, low_eq] at k
        exact Mi.of k rfl rfl rfl (by simp [nxt, nfn, hk]) rfl rfl rfl rfl rfl
      · have p3 : m.pc = 3 := by omega
        rw [show nfn m = 174 by simp [nfn, hk, p3]]
        refine (takeThing_any _ h' h0 h1 wm.h.1 wm.h.2 wm.l.1 wm.l.2).mono ?_
        rintro a w' ⟨rfl, k⟩
        refine ⟨rfl, ?_⟩
        rw [pop_swap hk p3]
        exact turned_mi hp wm.kd k
end
end Go.Proofs.YtpocihddecemfaaGreat

namespace Go.Proofs.YtpocihddecemfaaGreat.Dg
open Go.RowKit
set_option linter.unusedVariables false
set_option maxRecDepth 100000

set_option maxHeartbeats 400000 in
theorem part_any (b x : Int) (hb : 1 ≤ b) (hb2 : b ≤ 18446744073709551615) (hx : 0 ≤ x) (hx2 : x ≤ 18446744073709551615) (w : World) :
    Calls Tryz.prog 79 #[.int .u64 b, .int .u64 x] w fun e w' => e = .returned (.agg #[.int .u64 (x / b), .int .u64 (x % b)]) ∧ Below w.heap.size w w' := by
  go_enter Tryz.func79, Tryz.ntmps79
  go_wp2
  go_region
  all_goals go_wp2
  all_goals (refine bodyPost_ret (v := .agg #[.int .u64 (x / b), .int .u64 (x % b)]) (by simp [results, Tryz.results79, go_sem]) rfl ⟨rfl, ?_⟩)
  all_goals exact ((Below.refl _ _).alloc (Nat.le_refl _) _).drew

/-- How far x is ahead of y. -/
def aheadOf (x y : Int) : Int := if (x - y) % 18446744073709551616 < 9223372036854775808 then (x - y) % 18446744073709551616 else (x - y) % 18446744073709551616 - 18446744073709551616

theorem bcell {W w1 : World} (hb : Below W.heap.size W w1) : (∀ b o, b < W.heap.size → w1.cell? ⟨b, o, none⟩ = W.cell? ⟨b, o, none⟩) ∧ (∀ b o, b < W.heap.size → w1.frozen? ⟨b, o, none⟩ = W.frozen? ⟨b, o, none⟩) :=
  ⟨fun b o h => hb.cell (p := ⟨b, o, none⟩) h, fun b o h => hb.frozen (p := ⟨b, o, none⟩) h⟩

@[go_sem] theorem eq72 (a b c d : Int) (w : World) : (Op.equalIn 10000 131 (.agg #[.int .u64 a, .int .u64 b]) (.agg #[.int .u64 c, .int .u64 d])).run Tryz.prog w = .ok (a == c && b == d) w := by
  have u3 := Tryz.underlying25
  have a3 := Tryz.isAgg25
  have z3 := Tryz.sizeOf25
  rw [show (10000 : Nat) = 9999 + 1 from rfl, Op.equalIn]
  simp only [Sem.run_bind, run_underlying Tryz.underlying131, Result.andThen_ok]
  simp only [Std.Legacy.Range.forIn_eq_forIn_range', Std.Legacy.Range.size, Nat.sub_zero, Nat.add_sub_cancel, Nat.div_one, List.range'_succ, List.range'_zero, List.forIn_cons, List.forIn_nil]
  go_simp
  by_cases h1 : a = c <;> by_cases h2 : b = d <;> simp [h1, h2]

set_option maxHeartbeats 400000 in
theorem holds_any (d x y : Int) (hd : 0 ≤ d) (hd2 : d ≤ 18446744073709551615) (w : World) :
    Calls Tryz.prog 162 #[.func (.func 79) #[.int .u64 4294967296] #[], .int .u64 d, .agg #[.int .u64 x, .int .u64 y]] w fun e w' => e = .returned (.bool (d / 4294967296 == x && d % 4294967296 == y)) ∧ Below w.heap.size w w' := by
  go_enter Tryz.func162, Tryz.ntmps162
  go_wp2
  go_region_with (first | (go_at_call 79; refine (part_any 4294967296 d (by omega) (by omega) hd hd2 _).mono ?_; rintro e w1 ⟨rfl, hb⟩; obtain ⟨hc, hf⟩ := bcell hb))
  all_goals go_wp2
  all_goals go_ret
  all_goals exact ⟨rfl, below_step ((Below.refl _ _).alloc (Nat.le_refl _) _).drew (by simp) hb⟩

theorem holds_is (d x y : Int) (t : Bool) (hd : 0 ≤ d) (hd2 : d ≤ 18446744073709551615) (ht : (d / 4294967296 == x && d % 4294967296 == y) = t) (w : World) :
    Calls Tryz.prog 162 #[.func (.func 79) #[.int .u64 4294967296] #[], .int .u64 d, .agg #[.int .u64 x, .int .u64 y]] w fun e w' => e = .returned (.bool t) ∧ Below w.heap.size w w' :=
  (holds_any d x y hd hd2 w).mono fun _ _ ⟨he, hb⟩ => ⟨by rw [he, ht], hb⟩

set_option maxHeartbeats 400000 in
theorem ahead_walk (a b : Int) (w : World) :
    Calls Tryz.prog 157 #[.int .u64 a, .int .u64 b] w fun e w' => e = .returned (.int .i64 (aheadOf a b)) ∧ Below w.heap.size w w' := by
  have ew : IntKind.u64.wrap (a - b) = (a - b) % 18446744073709551616 := IntKind.wrap_u64 _
  have ew2 : IntKind.u64.wrap (b - a) = (b - a) % 18446744073709551616 := IntKind.wrap_u64 _
  have d0 : 0 ≤ IntKind.u64.wrap (a - b) := by omega
  have d1 : IntKind.u64.wrap (a - b) ≤ 18446744073709551615 := by omega
  have hmf : ∀ (fn : Fn) (first cap : Array Value) (w : World), (Instr.makeFunc fn first cap).run Tryz.prog w = .ok (.func fn first cap) w := fun _ _ _ _ => rfl
  by_cases h : IntKind.u64.wrap (a - b) = 9223372036854775808
  · have hz : aheadOf a b = -9223372036854775808 := by unfold aheadOf; split <;> omega
    have ht : (IntKind.u64.wrap (a - b) / 4294967296 == 2147483648 && IntKind.u64.wrap (a - b) % 4294967296 == 0) = true := by rw [h]; decide
    clear h ew ew2
    have HT := Lib.hid ht; clear ht
    have HZ := Lib.hid hz; clear hz
    go_enter Tryz.func157, Tryz.ntmps157
    go_wp2_with (go_at_call 162; refine (holds_is _ _ _ true d0 d1 HT.out _).mono ?_; rintro e w1 ⟨rfl, hb⟩)
    go_ret
    exact ⟨ret_int HZ.out.symm, hb⟩
  · have ht : (IntKind.u64.wrap (a - b) / 4294967296 == 2147483648 && IntKind.u64.wrap (a - b) % 4294967296 == 0) = false := by
      rw [Bool.eq_false_iff]; intro h2; simp at h2; omega
    have HT := Lib.hid ht; clear ht
    by_cases hl : IntKind.u64.wrap (a - b) < 9223372036854775808
    · have hz : aheadOf a b = IntKind.u64.wrap (a - b) := by unfold aheadOf; split <;> omega
      have HZ := Lib.hid hz; clear hz ew ew2 h
      go_enter Tryz.func157, Tryz.ntmps157
      go_wp2_with (go_at_call 162; refine (holds_is _ _ _ false d0 d1 HT.out _).mono ?_; rintro e w1 ⟨rfl, hb⟩)
      go_ret
      exact ⟨ret_int HZ.out.symm, hb⟩
    · have hz : aheadOf a b = - IntKind.u64.wrap (b - a) := by unfold aheadOf; split <;> omega
      have e0 : 0 ≤ IntKind.u64.wrap (b - a) := by omega
      have e1 : IntKind.u64.wrap (b - a) ≤ 9223372036854775807 := by omega
      have HZ := Lib.hid hz; clear hz ew ew2 h
      go_enter Tryz.func157, Tryz.ntmps157
      go_wp2_with (go_at_call 162; refine (holds_is _ _ _ false d0 d1 HT.out _).mono ?_; rintro e w1 ⟨rfl, hb⟩)
      go_ret
      exact ⟨ret_int HZ.out.symm, hb⟩

end Go.Proofs.YtpocihddecemfaaGreat.Dg

namespace Go.Proofs.YtpocihddecemfaaGreat.Dg
open Go.RowKit
set_option linter.unusedVariables false
set_option maxRecDepth 100000

/-- A machine's block. -/
def Mem (w : World) (M : Nat) (e : En) (nx : Value) (t b v r x : Int) : Prop :=
  w.heap[M]? = some (.cells #[.int .i64 e.top, .int .i64 e.bot, .int .i64 e.ent, .int .i64 (roomOf e), nx, .int .u64 t, .int .u64 b, .int .u64 v, .int .i64 r, .int .u64 x] 191 (0, 0))
/-- A machine and a store, apart. -/
structure Mst (w0 w : World) (M S D : Nat) (e : En) (nx : Value) (t b v r x : Int) (L : List Int) (c : Int) : Prop where
  mem : Mem w M e nx t b v r x
  st : St w S D L c
  n1 : M ≠ S
  n2 : M ≠ D
  u : U3 M S D w0 w
section
variable {w0 w w' : World} {M S D : Nat} {e : En} {nx : Value} {t b v r x : Int} {L : List Int} {c : Int}
theorem Mst.lt (h : Mst w0 w M S D e nx t b v r x L c) : M < w.heap.size := (Array.getElem?_eq_some_iff.1 h.mem).1
theorem Mst.f (h : Mst w0 w M S D e nx t b v r x L c) (j : Nat) : w.frozen? ⟨M, j, none⟩ = false := frozen_of_row w M j _ _ h.mem
theorem Mst.c0 (h : Mst w0 w M S D e nx t b v r x L c) : w.cell? ⟨M, 0, none⟩ = some (.int .i64 e.top) := by have := h.mem; unfold Mem at this; simp [World.cell?, this]
theorem Mst.c1 (h : Mst w0 w M S D e nx t b v r x L c) : w.cell? ⟨M, 1, none⟩ = some (.int .i64 e.bot) := by have := h.mem; unfold Mem at this; simp [World.cell?, this]
theorem Mst.c2 (h : Mst w0 w M S D e nx t b v r x L c) : w.cell? ⟨M, 2, none⟩ = some (.int .i64 e.ent) := by have := h.mem; unfold Mem at this; simp [World.cell?, this]
theorem Mst.c3 (h : Mst w0 w M S D e nx t b v r x L c) : w.cell? ⟨M, 3, none⟩ = some (.int .i64 (roomOf e)) := by have := h.mem; unfold Mem at this; simp [World.cell?, this]
theorem Mst.c4 (h : Mst w0 w M S D e nx t b v r x L c) : w.cell? ⟨M, 4, none⟩ = some nx := by have := h.mem; unfold Mem at this; simp [World.cell?, this]
theorem Mst.c5 (h : Mst w0 w M S D e nx t b v r x L c) : w.cell? ⟨M, 5, none⟩ = some (.int .u64 t) := by have := h.mem; unfold Mem at this; simp [World.cell?, this]
theorem Mst.c6 (h : Mst w0 w M S D e nx t b v r x L c) : w.cell? ⟨M, 6, none⟩ = some (.int .u64 b) := by have := h.mem; unfold Mem at this; simp [World.cell?, this]
theorem Mst.c7 (h : Mst w0 w M S D e nx t b v r x L c) : w.cell? ⟨M, 7, none⟩ = some (.int .u64 v) := by have := h.mem; unfold Mem at this; simp [World.cell?, this]
theorem Mst.c8 (h : Mst w0 w M S D e nx t b v r x L c) : w.cell? ⟨M, 8, none⟩ = some (.int .i64 r) := by have := h.mem; unfold Mem at this; simp [World.cell?, this]
theorem Mst.c9 (h : Mst w0 w M S D e nx t b v r x L c) : w.cell? ⟨M, 9, none⟩ = some (.int .u64 x) := by have := h.mem; unfold Mem at this; simp [World.cell?, this]
theorem Mst.left (h : Mst w0 w M S D e nx t b v r x L c) {L' : List Int} {c' : Int} (k : Left S D L' c' w w') : Mst w0 w' M S D e nx t b v r x L' c' :=
  ⟨(k.2.block M h.lt h.n1 h.n2).trans h.mem, k.1, h.n1, h.n2, h.u.trans (.of_upd k.2)⟩
theorem Mst.step (h : Mst w0 w M S D e nx t b v r x L c) (k : Below w.heap.size w w') : Mst w0 w' M S D e nx t b v r x L c :=
  ⟨(k.block M h.lt).trans h.mem, h.st.below k, h.n1, h.n2, h.u.trans (.of_below k)⟩
theorem Mst.drew (h : Mst w0 w M S D e nx t b v r x L c) : Mst w0 w.drew M S D e nx t b v r x L c := h.step (Below.refl _ _).drew
theorem Mst.put (h : Mst w0 w M S D e nx t b v r x L c) (i : Nat) (y : Value) {nx' : Value} {t' b' v' r' x' : Int}
    (hh : (#[.int .i64 e.top, .int .i64 e.bot, .int .i64 e.ent, .int .i64 (roomOf e), nx, .int .u64 t, .int .u64 b, .int .u64 v, .int .i64 r, .int .u64 x] : Array Value).setIfInBounds i y = #[.int .i64 e.top, .int .i64 e.bot, .int .i64 e.ent, .int .i64 (roomOf e), nx', .int .u64 t', .int .u64 b', .int .u64 v', .int .i64 r', .int .u64 x']) :
    Mst w0 (w.setCell ⟨M, i, none⟩ y) M S D e nx' t' b' v' r' x' L c := by
  refine ⟨?_, ?_, h.n1, h.n2, h.u.setM i y⟩
  · unfold Mem
    rw [heap_setCell_same w M i _ 191 _ h.mem, hh]
  · have u : Upd M M w (w.setCell ⟨M, i, none⟩ y) := ⟨rfl, rfl, rfl, by simp, fun k hk h1 _ => heap_setCell_other w ⟨M, i, none⟩ k y h1⟩
    exact h.st.upd u (Ne.symm h.n1) (Ne.symm h.n1) (Ne.symm h.n2) (Ne.symm h.n2)
theorem Mst.p4 (h : Mst w0 w M S D e nx t b v r x L c) (y : Value) : Mst w0 (w.setCell ⟨M, 4, none⟩ y) M S D e y t b v r x L c := h.put 4 y rfl
theorem Mst.p5 (h : Mst w0 w M S D e nx t b v r x L c) (y : Int) : Mst w0 (w.setCell ⟨M, 5, none⟩ (.int .u64 y)) M S D e nx y b v r x L c := h.put 5 _ rfl
theorem Mst.p6 (h : Mst w0 w M S D e nx t b v r x L c) (y : Int) : Mst w0 (w.setCell ⟨M, 6, none⟩ (.int .u64 y)) M S D e nx t y v r x L c := h.put 6 _ rfl
theorem Mst.p7 (h : Mst w0 w M S D e nx t b v r x L c) (y : Int) : Mst w0 (w.setCell ⟨M, 7, none⟩ (.int .u64 y)) M S D e nx t b y r x L c := h.put 7 _ rfl
theorem Mst.p8 (h : Mst w0 w M S D e nx t b v r x L c) (y : Int) : Mst w0 (w.setCell ⟨M, 8, none⟩ (.int .i64 y)) M S D e nx t b v y x L c := h.put 8 _ rfl
theorem Mst.p9 (h : Mst w0 w M S D e nx t b v r x L c) (y : Int) : Mst w0 (w.setCell ⟨M, 9, none⟩ (.int .u64 y)) M S D e nx t b v r y L c := h.put 9 _ rfl
end
end Go.Proofs.YtpocihddecemfaaGreat.Dg

namespace Go.Proofs.YtpocihddecemfaaGreat.Dg
open Go.RowKit
set_option linter.unusedVariables false
set_option maxRecDepth 100000
variable {w0 : World} {M S D : Nat} {e : En} {nx : Value} {t b v r x : Int} {L : List Int} {c : Int}

theorem Mst.fin {w : World} (h : Mst w0 w M S D e nx t b v r x L c) (o y : Int) :
    Mst w0 (((w.setCell ⟨M, 4, none⟩ .nilFunc).setCell ⟨M, 8, none⟩ (.int .i64 o)).setCell ⟨M, 9, none⟩ (.int .u64 y)) M S D e .nilFunc t b v o y L c := ((h.p4 _).p8 _).p9 _
theorem Mst.hf {w : World} (h : Mst w0 w M S D e nx t b v r x L c) : (∀ j, w.frozen? ⟨M, j, none⟩ = false) := h.f

set_option maxHeartbeats 1000000 in
theorem finish_any (o y : Int) (w : World) (h : Mst w0 w M S D e nx t b v r x L c) :
    Calls Tryz.prog 158 #[ptr M, .int .i64 o, .int .u64 y] w fun a w' => a = .returned (.tuple #[]) ∧ Mst w0 w' M S D e .nilFunc t b v o y L c := by
  have HL := Lib.hid (h.fin o y)
  have c4 := h.c4; have f4 := h.f 4; have c8 := h.c8; have f8 := h.f 8; have c9 := h.c9; have f9 := h.f 9
  clear h
  go_enter Tryz.func158, Tryz.ntmps158
  go_wp2
  go_returns
  exact ⟨rfl, HL.out⟩

theorem Mst.see6 {w : World} (h : Mst w0 w M S D e nx t b v r x L c) (y : Int) (f : Value) : Mst w0 ((w.setCell ⟨M, 6, none⟩ (.int .u64 y)).setCell ⟨M, 4, none⟩ f) M S D e f t y v r x L c := (h.p6 y).p4 f
theorem Mst.see5 {w : World} (h : Mst w0 w M S D e nx t b v r x L c) (y : Int) (f : Value) : Mst w0 ((w.setCell ⟨M, 5, none⟩ (.int .u64 y)).setCell ⟨M, 4, none⟩ f) M S D e f y b v r x L c := (h.p5 y).p4 f

set_option maxHeartbeats 1000000 in
theorem seeBottom_any (w : World) (h : Mst w0 w M S D e nx t b v r x L c) (h0 : 0 ≤ c) (h1 : c ≤ 1000000000) :
    Calls Tryz.prog 143 #[ptr M, ptr S] w fun a w' => a = .returned (.tuple #[]) ∧ Mst w0 w' M S D e (fnv 149 M) t (ldv L e.bot) v r x L (c + 1) := by
  have hmf : ∀ (fn : Fn) (first cap : Array Value) (w : World), (Instr.makeFunc fn first cap).run Tryz.prog w = .ok (.func fn first cap) w := fun _ _ _ _ => rfl
  have c1 := h.c1
  have H := Lib.hid h; clear h
  go_enter Tryz.func143, Tryz.ntmps143
  go_wp2_with (first
    | (go_at_call 27; (with_reducible refine (load_any _ _ H.out.st h0 h1).mono ?_); rintro r w1 ⟨rfl, hk⟩; have HK := Lib.hid (H.out.left hk); have c4 := HK.out.c4; have f4 := HK.out.f 4; have c6 := HK.out.c6; have f6 := HK.out.f 6; have HL := Lib.hid (HK.out.see6 (ldv L e.bot) (fnv 149 M)); clear hk)
    | fail)
  go_returns
  exact ⟨rfl, HL.out⟩
end Go.Proofs.YtpocihddecemfaaGreat.Dg
