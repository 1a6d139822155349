/- A stack's machine in memory: what it holds, and what stays while it goes on. The steps of a stack's machine, walked. The steps of a stack's machine that write, and that ask for a place, walked. -/
import Derived.Test.YtbpkcoemehmpbaaGreatJ8
namespace Go.Proofs.YtbpkcoemehmpbaaGreat
open Go.RowKit
set_option linter.unusedVariables false

abbrev fnv (n M : Nat) : Value := .func (.func n) #[ptr M] #[]

/-- All blocks but these three are as they were. -/
structure U3 (M S D : Nat) (w w' : World) : Prop where
  os : w'.os = w.os
  tape : w'.tape = w.tape
  output : w'.output = w.output
  size : w.heap.size ≤ w'.heap.size
  block : ∀ k, k < w.heap.size → k ≠ M → k ≠ S → k ≠ D → w'.heap[k]? = w.heap[k]?
theorem U3.refl (M S D : Nat) (w : World) : U3 M S D w w := ⟨rfl, rfl, rfl, Nat.le_refl _, fun _ _ _ _ _ => rfl⟩
theorem U3.trans {M S D : Nat} {a b c : World} (h : U3 M S D a b) (k : U3 M S D b c) : U3 M S D a c :=
  ⟨k.os.trans h.os, k.tape.trans h.tape, k.output.trans h.output, Nat.le_trans h.size k.size, fun i hi h0 h1 h2 => (k.block i (Nat.lt_of_lt_of_le hi h.size) h0 h1 h2).trans (h.block i hi h0 h1 h2)⟩
theorem U3.of_upd {M S D : Nat} {w w' : World} (h : Upd S D w w') : U3 M S D w w' := ⟨h.os, h.tape, h.output, h.size, fun k hk _ h1 h2 => h.block k hk h1 h2⟩
theorem U3.of_below {M S D : Nat} {w w' : World} (h : Below w.heap.size w w') : U3 M S D w w' := ⟨h.os, h.tape, h.output, h.size, fun k hk _ _ _ => h.block k hk⟩
theorem U3.setM {M S D : Nat} {a w : World} (h : U3 M S D a w) (i : Nat) (v : Value) : U3 M S D a (w.setCell ⟨M, i, none⟩ v) :=
  h.trans ⟨rfl, rfl, rfl, by simp, fun k hk h1 _ _ => heap_setCell_other w ⟨M, i, none⟩ k v h1⟩
theorem below_u3 {B M S D : Nat} {w0 w w' : World} (h : Below B w0 w) (hB : B ≤ w0.heap.size) (u : U3 M S D w w') (hM : B ≤ M) (hS : B ≤ S) (hD : B ≤ D) : Below B w0 w' :=
  h.trans ⟨u.os, u.tape, u.output, u.size, fun k hk => u.block k (Nat.lt_of_lt_of_le hk (Nat.le_trans hB h.size)) (by omega) (by omega) (by omega)⟩
theorem Lk.u3 {w w' : World} {M S D Ab : Nat} {lv : Value} {zs : List Int} (h : Lk w lv Ab zs) (u : U3 M S D w w') (n2 : Ab ≠ M ∧ Ab ≠ S ∧ Ab ≠ D) : Lk w' lv Ab zs :=
  h.keep u.size (u.block Ab h.lt n2.1 n2.2.1 n2.2.2)

/-- A machine's block. -/
def Mem (w : World) (M : Nat) (lv : Value) (hd : Int) (fs nx : Value) (se th li it tr : Int) : Prop :=
  w.heap[M]? = some (.cells #[.int .i64 hd, lv, fs, nx, .int .u64 se, .int .u32 th, .int .u32 li, .int .u32 it, .int .i64 tr] 136 (0, 0))
/-- A machine, its links and a store, apart. -/
structure Mst (w0 w : World) (M S D : Nat) (lv : Value) (Ab : Nat) (zs : List Int) (hd : Int) (fs nx : Value) (se th li it tr : Int) (L : List Int) (c : Int) : Prop where
  mem : Mem w M lv hd fs nx se th li it tr
  st : St w S D L c
  n1 : M ≠ S
  n2 : M ≠ D
  lk : Lk w lv Ab zs
  b2 : Ab ≠ M ∧ Ab ≠ S ∧ Ab ≠ D
  u : U3 M S D w0 w
section
variable {w0 w w' : World} {M S D Ab : Nat} {lv : Value} {zs : List Int} {hd : Int} {fs nx : Value} {se th li it tr : Int} {L : List Int} {c : Int}
theorem Mst.lt (h : Mst w0 w M S D lv Ab zs hd fs nx se th li it tr L c) : M < w.heap.size := (Array.getElem?_eq_some_iff.1 h.mem).1
theorem Mst.f (h : Mst w0 w M S D lv Ab zs hd fs nx se th li it tr L c) (j : Nat) : w.frozen? ⟨M, j, none⟩ = false := frozen_of_row w M j _ _ h.mem
theorem Mst.c0 (h : Mst w0 w M S D lv Ab zs hd fs nx se th li it tr L c) : w.cell? ⟨M, 0, none⟩ = some (.int .i64 hd) := by have := h.mem; unfold Mem at this; simp [World.cell?, this]
theorem Mst.c1 (h : Mst w0 w M S D lv Ab zs hd fs nx se th li it tr L c) : w.cell? ⟨M, 1, none⟩ = some (lv) := by have := h.mem; unfold Mem at this; simp [World.cell?, this]
theorem Mst.c2 (h : Mst w0 w M S D lv Ab zs hd fs nx se th li it tr L c) : w.cell? ⟨M, 2, none⟩ = some (fs) := by have := h.mem; unfold Mem at this; simp [World.cell?, this]
theorem Mst.c3 (h : Mst w0 w M S D lv Ab zs hd fs nx se th li it tr L c) : w.cell? ⟨M, 3, none⟩ = some (nx) := by have := h.mem; unfold Mem at this; simp [World.cell?, this]
theorem Mst.c4 (h : Mst w0 w M S D lv Ab zs hd fs nx se th li it tr L c) : w.cell? ⟨M, 4, none⟩ = some (.int .u64 se) := by have := h.mem; unfold Mem at this; simp [World.cell?, this]
theorem Mst.c5 (h : Mst w0 w M S D lv Ab zs hd fs nx se th li it tr L c) : w.cell? ⟨M, 5, none⟩ = some (.int .u32 th) := by have := h.mem; unfold Mem at this; simp [World.cell?, this]
theorem Mst.c6 (h : Mst w0 w M S D lv Ab zs hd fs nx se th li it tr L c) : w.cell? ⟨M, 6, none⟩ = some (.int .u32 li) := by have := h.mem; unfold Mem at this; simp [World.cell?, this]
theorem Mst.c7 (h : Mst w0 w M S D lv Ab zs hd fs nx se th li it tr L c) : w.cell? ⟨M, 7, none⟩ = some (.int .u32 it) := by have := h.mem; unfold Mem at this; simp [World.cell?, this]
theorem Mst.c8 (h : Mst w0 w M S D lv Ab zs hd fs nx se th li it tr L c) : w.cell? ⟨M, 8, none⟩ = some (.int .i64 tr) := by have := h.mem; unfold Mem at this; simp [World.cell?, this]
theorem Mst.left (h : Mst w0 w M S D lv Ab zs hd fs nx se th li it tr L c) {L' : List Int} {c' : Int} (k : Left S D L' c' w w') : Mst w0 w' M S D lv Ab zs hd fs nx se th li it tr L' c' :=
  ⟨(k.2.block M h.lt h.n1 h.n2).trans h.mem, k.1, h.n1, h.n2, h.lk.u3 (M := M) (.of_upd k.2) h.b2, h.b2, h.u.trans (.of_upd k.2)⟩
theorem Mst.step (h : Mst w0 w M S D lv Ab zs hd fs nx se th li it tr L c) (k : Below w.heap.size w w') : Mst w0 w' M S D lv Ab zs hd fs nx se th li it tr L c :=
  ⟨(k.block M h.lt).trans h.mem, h.st.below k, h.n1, h.n2, h.lk.below k, h.b2, h.u.trans (.of_below k)⟩
theorem Mst.drew (h : Mst w0 w M S D lv Ab zs hd fs nx se th li it tr L c) : Mst w0 w.drew M S D lv Ab zs hd fs nx se th li it tr L c := h.step (Below.refl _ _).drew
theorem Mst.put (h : Mst w0 w M S D lv Ab zs hd fs nx se th li it tr L c) (i : Nat) (y : Value) {fs' nx' : Value} {se' th' li' it' tr' : Int}
    (hh : (#[.int .i64 hd, lv, fs, nx, .int .u64 se, .int .u32 th, .int .u32 li, .int .u32 it, .int .i64 tr] : Array Value).setIfInBounds i y = #[.int .i64 hd, lv, fs', nx', .int .u64 se', .int .u32 th', .int .u32 li', .int .u32 it', .int .i64 tr']) :
    Mst w0 (w.setCell ⟨M, i, none⟩ y) M S D lv Ab zs hd fs' nx' se' th' li' it' tr' L c := by
  have u : U3 M M M w (w.setCell ⟨M, i, none⟩ y) := ⟨rfl, rfl, rfl, by simp, fun k hk h1 _ _ => heap_setCell_other w ⟨M, i, none⟩ k y h1⟩
  refine ⟨?_, ?_, h.n1, h.n2, h.lk.u3 u ⟨h.b2.1, h.b2.1, h.b2.1⟩, h.b2, h.u.setM i y⟩
  · unfold Mem
    rw [heap_setCell_same w M i _ 136 _ h.mem, hh]
  · have u : Upd M M w (w.setCell ⟨M, i, none⟩ y) := ⟨rfl, rfl, rfl, by simp, fun k hk h1 _ => heap_setCell_other w ⟨M, i, none⟩ k y h1⟩
    exact h.st.upd u (Ne.symm h.n1) (Ne.symm h.n1) (Ne.symm h.n2) (Ne.symm h.n2)
theorem Mst.p2 (h : Mst w0 w M S D lv Ab zs hd fs nx se th li it tr L c) (y : Value) : Mst w0 (w.setCell ⟨M, 2, none⟩ y) M S D lv Ab zs hd y nx se th li it tr L c := h.put 2 y rfl
theorem Mst.p3 (h : Mst w0 w M S D lv Ab zs hd fs nx se th li it tr L c) (y : Value) : Mst w0 (w.setCell ⟨M, 3, none⟩ y) M S D lv Ab zs hd fs y se th li it tr L c := h.put 3 y rfl
theorem Mst.p4 (h : Mst w0 w M S D lv Ab zs hd fs nx se th li it tr L c) (y : Int) : Mst w0 (w.setCell ⟨M, 4, none⟩ (.int .u64 y)) M S D lv Ab zs hd fs nx y th li it tr L c := h.put 4 _ rfl
theorem Mst.p5 (h : Mst w0 w M S D lv Ab zs hd fs nx se th li it tr L c) (y : Int) : Mst w0 (w.setCell ⟨M, 5, none⟩ (.int .u32 y)) M S D lv Ab zs hd fs nx se y li it tr L c := h.put 5 _ rfl
theorem Mst.p6 (h : Mst w0 w M S D lv Ab zs hd fs nx se th li it tr L c) (y : Int) : Mst w0 (w.setCell ⟨M, 6, none⟩ (.int .u32 y)) M S D lv Ab zs hd fs nx se th y it tr L c := h.put 6 _ rfl
theorem Mst.p7 (h : Mst w0 w M S D lv Ab zs hd fs nx se th li it tr L c) (y : Int) : Mst w0 (w.setCell ⟨M, 7, none⟩ (.int .u32 y)) M S D lv Ab zs hd fs nx se th li y tr L c := h.put 7 _ rfl
theorem Mst.p8 (h : Mst w0 w M S D lv Ab zs hd fs nx se th li it tr L c) (y : Int) : Mst w0 (w.setCell ⟨M, 8, none⟩ (.int .i64 y)) M S D lv Ab zs hd fs nx se th li it y L c := h.put 8 _ rfl
end
end Go.Proofs.YtbpkcoemehmpbaaGreat

namespace Go.Proofs.YtbpkcoemehmpbaaGreat
open Go.RowKit
set_option linter.unusedVariables false
variable {w0 : World} {M S D Ab : Nat} {lv : Value} {zs : List Int} {hd : Int} {fs nx : Value} {se th li it tr : Int} {L : List Int} {c : Int}

/-- All words are words. -/
def WW (L : List Int) : Prop := ∀ x ∈ L, 0 ≤ x ∧ x ≤ 18446744073709551615
theorem WW.ld (h : WW L) (a : Int) : 0 ≤ ldv L a ∧ ldv L a ≤ 18446744073709551615 := by
  unfold ldv; split
  · rename_i hh
    have hl := in_yes hh
    have hl2 : a.toNat < L.length := by omega
    rw [List.getD, List.getElem?_eq_getElem hl2]
    exact h _ (List.getElem_mem hl2)
  · omega

theorem Mst.fin {w : World} (h : Mst w0 w M S D lv Ab zs hd fs nx se th li it tr L c) (o : Int) :
    Mst w0 ((w.setCell ⟨M, 3, none⟩ .nilFunc).setCell ⟨M, 7, none⟩ (.int .u32 o)) M S D lv Ab zs hd fs .nilFunc se th li o tr L c := (h.p3 _).p7 _
set_option maxHeartbeats 1000000 in
theorem finish_any (o : Int) (w : World) (h : Mst w0 w M S D lv Ab zs hd fs nx se th li it tr L c) :
    Calls Tryz.prog 112 #[ptr M, .int .u32 o] w fun a w' => a = .returned (.tuple #[]) ∧ Mst w0 w' M S D lv Ab zs hd fs .nilFunc se th li o tr L c := by
  have HL := Lib.hid (h.fin o)
  have c3 := h.c3; have f3 := h.f 3; have c7 := h.c7; have f7 := h.f 7
  clear h
  go_enter Tryz.func112, Tryz.ntmps112
  go_wp2
  go_returns
  exact ⟨rfl, HL.out⟩

set_option maxHeartbeats 1000000 in
theorem see_any (w : World) (h : Mst w0 w M S D lv Ab zs hd fs nx se th li it tr L c) (h0 : 0 ≤ c) (h1 : c ≤ 1000000000) (t0 : 0 ≤ tr) (t1 : tr ≤ 1000000000) (ww : WW L) :
    Calls Tryz.prog 104 #[ptr M, ptr S] w fun a w' => a = .returned (.int .u32 (lowOf (ldv L hd))) ∧ Mst w0 w' M S D lv Ab zs hd fs nx (ldv L hd) th li it (tr + 1) L (c + 1) := by
  have c8 := h.c8; have f8 := h.f 8
  have HK := Lib.hid (h.p8 (tr + 1)); clear h
  have c0 := HK.out.c0
  obtain ⟨y, hy⟩ : ∃ y, y = ldv L hd := ⟨_, rfl⟩
  rw [← hy]
  have HY := Lib.hid hy
  have y0 : 0 ≤ y := by rw [hy]; exact (ww.ld hd).1
  have y1 : y ≤ 18446744073709551615 := by rw [hy]; exact (ww.ld hd).2
  clear hy ww
  go_enter Tryz.func104, Tryz.ntmps104
  go_wp2_with (first
    | (go_at_call 27; (with_reducible refine (load_any _ _ HK.out.st h0 h1).mono ?_); rintro r w1 ⟨rfl, hk⟩; rw [← HY.out]; have HQ := Lib.hid (HK.out.left hk); have c4 := HQ.out.c4; have f4 := HQ.out.f 4; have HL := Lib.hid (HQ.out.p4 y); clear hk)
    | (go_at_call 106; (with_reducible refine (low_any _ y0 y1 _).mono ?_); rintro r w2 ⟨rfl, hb⟩; have HE := Lib.hid (HL.out.step hb); clear hb)
    | fail)
  go_ret
  exact ⟨rfl, HE.out⟩

set_option maxHeartbeats 1000000 in
theorem seeHead_any (w : World) (h : Mst w0 w M S D lv Ab zs hd fs nx se th li it tr L c) (h0 : 0 ≤ c) (h1 : c ≤ 1000000000) (t0 : 0 ≤ tr) (t1 : tr ≤ 1000000000) (ww : WW L) :
    Calls Tryz.prog 102 #[ptr M, ptr S] w fun a w' => a = .returned (.tuple #[]) ∧ Mst w0 w' M S D lv Ab zs hd fs (fnv 105 M) (ldv L hd) th (lowOf (ldv L hd)) it (tr + 1) L (c + 1) := by
  have hmf : ∀ (fn : Fn) (first cap : Array Value) (w : World), (Instr.makeFunc fn first cap).run Tryz.prog w = .ok (.func fn first cap) w := fun _ _ _ _ => rfl
  have H := Lib.hid h; clear h
  go_enter Tryz.func102, Tryz.ntmps102
  go_wp2_with (first
    | (go_at_call 104; (with_reducible refine (see_any _ H.out h0 h1 t0 t1 ww).mono ?_); rintro r w1 ⟨rfl, hk⟩; have HQ := Lib.hid hk; clear hk; have c6 := HQ.out.c6; have f6 := HQ.out.f 6; have HP := Lib.hid (HQ.out.p6 (lowOf (ldv L hd))); have c3 := HP.out.c3; have f3 := HP.out.f 3; have HL := Lib.hid (HP.out.p3 (fnv 105 M)))
    | fail)
  go_returns
  exact ⟨rfl, HL.out⟩

end Go.Proofs.YtbpkcoemehmpbaaGreat

namespace Go.Proofs.YtbpkcoemehmpbaaGreat
open Go.RowKit
set_option linter.unusedVariables false
variable {w0 : World} {M S D Ab g : Nat} {lv : Value} {zs : List Int} {hd : Int} {fs nx : Value} {se th li it tr : Int} {L : List Int} {c : Int}

theorem Mst.cs {w : World} (h : Mst w0 w M S D lv Ab zs hd fs nx se th li it tr L c) :
    w.cell? ⟨M, 0, none⟩ = some (.int .i64 hd) ∧ w.cell? ⟨M, 1, none⟩ = some (lv) ∧ w.cell? ⟨M, 4, none⟩ = some (.int .u64 se) ∧ w.cell? ⟨M, 5, none⟩ = some (.int .u32 th) ∧ w.cell? ⟨M, 6, none⟩ = some (.int .u32 li) :=
  ⟨h.c0, h.c1, h.c4, h.c5, h.c6⟩

theorem Mst.cs4 {w : World} (h : Mst w0 w M S D lv Ab zs hd fs nx se th li it tr L c) :
    w.cell? ⟨M, 0, none⟩ = some (.int .i64 hd) ∧ w.cell? ⟨M, 1, none⟩ = some (lv) ∧ w.cell? ⟨M, 4, none⟩ = some (.int .u64 se) ∧ w.cell? ⟨M, 5, none⟩ = some (.int .u32 th) :=
  ⟨h.c0, h.c1, h.c4, h.c5⟩

set_option maxHeartbeats 1000000 in
theorem putLink_any (w : World) (h : Mst w0 w M S D lv Ab zs hd fs nx se th li it tr L c) (h0 : 0 ≤ c) (h1 : c ≤ 1000000000) (t0 : 0 ≤ th) (t1 : th ≤ 4294967295) (l0 : 0 ≤ li) (l1 : li ≤ 4294967295) :
    Calls Tryz.prog 105 #[ptr M, ptr S] w fun a w' => a = .returned (.tuple #[]) ∧ Mst w0 w' M S D lv Ab zs hd fs (fnv 108 M) se th li it tr (ptv L (atOf zs th) li) (c + 1) := by
  have hmf : ∀ (fn : Fn) (first cap : Array Value) (w : World), (Instr.makeFunc fn first cap).run Tryz.prog w = .ok (.func fn first cap) w := fun _ _ _ _ => rfl
  obtain ⟨q0, q1, q4, q5, q6⟩ := h.cs
  have HMD := Lib.hid h.drew; clear h
  have ew : IntKind.u64.wrap li = li := by rw [IntKind.wrap_u64]; omega
  go_enter Tryz.func105, Tryz.ntmps105
  go_wp2
  go_region_held3 (fun w' => w'.cell? ⟨M, 0, none⟩ = some (.int .i64 hd) ∧ w'.cell? ⟨M, 1, none⟩ = some (lv) ∧ w'.cell? ⟨M, 4, none⟩ = some (.int .u64 se) ∧ w'.cell? ⟨M, 5, none⟩ = some (.int .u32 th) ∧ w'.cell? ⟨M, 6, none⟩ = some (.int .u32 li))
    (first | exact HQ.out.cs | exact HN.out.cs | exact HMD.out.cs | go_keep)
    (first
      | (go_at_call 107; (with_reducible refine (place_any _ _ HMD.out.lk t0 t1).mono ?_); rintro r w3 ⟨rfl, hb⟩; have HN := Lib.hid (HMD.out.step hb); clear hb)
      | (go_at_call 13; (with_reducible refine (put_any _ _ _ HN.out.st h0 h1).mono ?_); rintro r w4 ⟨rfl, hk⟩; have HQ := Lib.hid (HN.out.left hk); clear hk; have c3 := HQ.out.c3; have f3 := HQ.out.f 3; have HL := Lib.hid (HQ.out.p3 (fnv 108 M)))
      | fail)
  go_wp2
  go_returns
  exact ⟨rfl, HL.out⟩

/-- What a turn leaves. -/
def Turned (w0 : World) (M S D : Nat) (lv : Value) (Ab : Nat) (zs : List Int) (hd : Int) (fs : Value) (se th li it tr : Int) (L : List Int) (c x : Int) (w' : World) : Prop :=
  Mst w0 w' M S D lv Ab zs hd fs (if swB L hd se = true then .nilFunc else fs) se th li (if swB L hd se = true then th else it) tr (swv L hd se (turnOf se x)) (c + 1)

set_option maxHeartbeats 2000000 in
theorem turn2_any (x : Int) (w : World) (h : Mst w0 w M S D lv Ab zs hd (fnv g M) nx se th li it tr L c) (h0 : 0 ≤ c) (h1 : c ≤ 1000000000) (s0 : 0 ≤ se) (s1 : se ≤ 18446744073709551615) (x0 : 0 ≤ x) (x1 : x ≤ 4294967295) :
    Calls Tryz.prog 110 #[ptr M, ptr S, .int .u32 x] w fun a w' => a = .returned (.tuple #[]) ∧ Turned w0 M S D lv Ab zs hd (fnv g M) se th li it tr L c x w' := by
  obtain ⟨q0, q1, q4, q5⟩ := h.cs4
  have HMD := Lib.hid h.drew; clear h
  unfold Turned
  obtain ⟨b, hb⟩ : ∃ b, b = swB L hd se := ⟨_, rfl⟩
  obtain ⟨L', hL'⟩ : ∃ L', L' = swv L hd se (turnOf se x) := ⟨_, rfl⟩
  rw [← hb, ← hL']
  have HB := Lib.hid hb; have HW := Lib.hid hL'
  clear hb hL'
  cases b
  · simp only [Bool.false_eq_true, if_false]
    go_enter Tryz.func110, Tryz.ntmps110
    go_wp2
    go_region_held3 (fun w' => w'.cell? ⟨M, 0, none⟩ = some (.int .i64 hd) ∧ w'.cell? ⟨M, 1, none⟩ = some (lv) ∧ w'.cell? ⟨M, 4, none⟩ = some (.int .u64 se) ∧ w'.cell? ⟨M, 5, none⟩ = some (.int .u32 th))
      (first | exact HQ.out.cs4 | exact HN.out.cs4 | exact HMD.out.cs4 | go_keep)
      (first
        | (go_at_call 111; (with_reducible refine (turnw_any _ _ s0 s1 x0 x1 _).mono ?_); rintro r w3 ⟨rfl, hb⟩; have HN := Lib.hid (HMD.out.step hb); clear hb)
        | (go_at_call 88; (with_reducible refine (swap_any _ _ _ _ HN.out.st h0 h1).mono ?_); rintro r w4 ⟨rfl, hk⟩; rw [← HB.out]; rw [← HW.out] at hk; have HQ := Lib.hid (HN.out.left hk); clear hk)
        | fail)
    have c2 := HQ.out.c2; have c3 := HQ.out.c3; have f3 := HQ.out.f 3; have HF := Lib.hid (HQ.out.p3 (fnv g M))
    go_wp2
    go_returns
    exact ⟨rfl, HF.out⟩
  · simp only [if_true]
    go_enter Tryz.func110, Tryz.ntmps110
    go_wp2
    go_region_held3 (fun w' => w'.cell? ⟨M, 0, none⟩ = some (.int .i64 hd) ∧ w'.cell? ⟨M, 1, none⟩ = some (lv) ∧ w'.cell? ⟨M, 4, none⟩ = some (.int .u64 se) ∧ w'.cell? ⟨M, 5, none⟩ = some (.int .u32 th))
      (first | exact HQ.out.cs4 | exact HN.out.cs4 | exact HMD.out.cs4 | go_keep)
      (first
        | (go_at_call 111; (with_reducible refine (turnw_any _ _ s0 s1 x0 x1 _).mono ?_); rintro r w3 ⟨rfl, hb⟩; have HN := Lib.hid (HMD.out.step hb); clear hb)
        | (go_at_call 88; (with_reducible refine (swap_any _ _ _ _ HN.out.st h0 h1).mono ?_); rintro r w4 ⟨rfl, hk⟩; rw [← HB.out]; rw [← HW.out] at hk; have HQ := Lib.hid (HN.out.left hk); clear hk)
        | fail)
    have c5 := HQ.out.c5
    go_wp2_with (first
      | (go_at_call 112; (with_reducible refine (finish_any _ _ HQ.out).mono ?_); rintro r w5 ⟨rfl, hk⟩; have HF := Lib.hid hk; clear hk)
      | fail)
    go_returns
    exact ⟨rfl, HF.out⟩

set_option maxHeartbeats 1000000 in
theorem showThing_any (w : World) (h : Mst w0 w M S D lv Ab zs hd (fnv g M) nx se th li it tr L c) (h0 : 0 ≤ c) (h1 : c ≤ 1000000000) (s0 : 0 ≤ se) (s1 : se ≤ 18446744073709551615) (x0 : 0 ≤ th) (x1 : th ≤ 4294967295) :
    Calls Tryz.prog 108 #[ptr M, ptr S] w fun a w' => a = .returned (.tuple #[]) ∧ Turned w0 M S D lv Ab zs hd (fnv g M) se th li it tr L c th w' := by
  have c5 := h.c5
  have H := Lib.hid h; clear h
  go_enter Tryz.func108, Tryz.ntmps108
  go_wp2_with (first
    | (go_at_call 110; (with_reducible refine (turn2_any _ _ H.out h0 h1 s0 s1 x0 x1).mono ?_); rintro r w5 ⟨rfl, hk⟩; have HF := Lib.hid hk; clear hk)
    | fail)
  go_returns
  exact ⟨rfl, HF.out⟩
end Go.Proofs.YtbpkcoemehmpbaaGreat
