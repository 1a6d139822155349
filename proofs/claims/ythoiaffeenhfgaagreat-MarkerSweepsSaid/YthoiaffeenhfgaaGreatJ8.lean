/-  -/
import Derived.Test.YthoiaffeenhfgaaGreatJ1
import Derived.Test.YthoiaffeenhfgaaGreatJ4
import Derived.Laws.EntriesVeiled
namespace Go.Proofs.YthoiaffeenhfgaaGreat
open Go.RowKit
set_option linter.unusedVariables false
abbrev fnv (n M : Nat) : Value := .func (.func n) #[ptr M] #[]
structure U3 (M S D : Nat) (w w' : World) : Prop where
  os : w'.os = w.os
  tape : w'.tape = w.tape
  output : w'.output = w.output
  size : w.heap.size ≤ w'.heap.size
  block : ∀ k, k < w.heap.size → k ≠ M → k ≠ S → k ≠ D → w'.heap[k]? = w.heap[k]?
theorem U3.refl (M S D : Nat) (w : World) : U3 M S D w w := ⟨rfl, rfl, rfl, Nat.le_refl _, fun _ _ _ _ _ => rfl⟩
theorem U3.trans {M S D : Nat} {a b c : World} (h : U3 M S D a b) (k : U3 M S D b c) : U3 M S D a c :=
  ⟨k.os.trans h.os, k.tape.trans h.tape, k.output.trans h.output, Nat.le_trans h.size k.size, fun i hi h0 h1 h2 => (k.block i (Nat.lt_of_lt_of_le hi h.size) h0 h1 h2).trans (h.block i hi h0 h1 h2)⟩
theorem U3.of_upd {M S D : Nat} {w w' : World} (h : Upd S D w w') : U3 M S D w w' := ⟨h.os, h.tape, h.output, h.size, fun k hk _ h1 h2 => h.block k hk h1 h2⟩
theorem U3.of_below {M S D : Nat} {w w' : World} (h : Below w.heap.size w w') : U3 M S D w w' := ⟨h.os, h.tape, h.output, h.size, fun k hk _ _ _ => h.block k hk⟩
theorem U3.setM {M S D : Nat} {a w : World} (h : U3 M S D a w) (i : Nat) (v : Value) : U3 M S D a (w.setCell ⟨M, i, none⟩ v) :=
  h.trans ⟨rfl, rfl, rfl, by simp, fun k hk h1 _ _ => heap_setCell_other w ⟨M, i, none⟩ k v h1⟩
theorem Lk.u3 {w w' : World} {M S D Ab : Nat} {lv : Value} {zs : List Int} (h : Lk w lv Ab zs) (u : U3 M S D w w') (n2 : Ab ≠ M ∧ Ab ≠ S ∧ Ab ≠ D) : Lk w' lv Ab zs :=
  h.keep u.size (u.block Ab h.lt n2.1 n2.2.1 n2.2.2)
def Mem (w : World) (M : Nat) (lv : Value) (hd : Int) (fs nx : Value) (se th li it tr : Int) : Prop :=
  w.heap[M]? = some (.cells #[.int .i64 hd, lv, fs, nx, .int .u64 se, .int .u32 th, .int .u32 li, .int .u32 it, .int .i64 tr] 142 (0, 0))
structure Mst (w0 w : World) (M S D : Nat) (lv : Value) (Ab : Nat) (zs : List Int) (hd : Int) (fs nx : Value) (se th li it tr : Int) (L : List Int) (c : Int) : Prop where
  mem : Mem w M lv hd fs nx se th li it tr
  st : St w S D L c
  n1 : M ≠ S
  n2 : M ≠ D
  lk : Lk w lv Ab zs
  b2 : Ab ≠ M ∧ Ab ≠ S ∧ Ab ≠ D
  u : U3 M S D w0 w
section
variable {w0 w w' : World} {M S D Ab : Nat} {lv : Value} {zs : List Int} {hd : Int} {fs nx : Value} {se th li it tr : Int} {L : List Int} {c : Int}
theorem Mst.lt (h : Mst w0 w M S D lv Ab zs hd fs nx se th li it tr L c) : M < w.heap.size := (Array.getElem?_eq_some_iff.1 h.mem).1
theorem Mst.f (h : Mst w0 w M S D lv Ab zs hd fs nx se th li it tr L c) (j : Nat) : w.frozen? ⟨M, j, none⟩ = false := frozen_of_row w M j _ _ h.mem
theorem Mst.c0 (h : Mst w0 w M S D lv Ab zs hd fs nx se th li it tr L c) : w.cell? ⟨M, 0, none⟩ = some (.int .i64 hd) := by have := h.mem; unfold Mem at this; simp [World.cell?, this]
theorem Mst.c1 (h : Mst w0 w M S D lv Ab zs hd fs nx se th li it tr L c) : w.cell? ⟨M, 1, none⟩ = some (lv) := by have := h.mem; unfold Mem at this; simp [World.cell?, this]
theorem Mst.c2 (h : Mst w0 w M S D lv Ab zs hd fs nx se th li it tr L c) : w.cell? ⟨M, 2, none⟩ = some (fs) := by have := h.mem; unfold Mem at this; simp [World.cell?, this]
theorem Mst.c3 (h : Mst w0 w M S D lv Ab zs hd fs nx se th li it tr L c) : w.cell? ⟨M, 3, none⟩ = some (nx) := by have := h.mem; unfold Mem at this; simp [World.cell?, this]
theorem Mst.c4 (h : Mst w0 w M S D lv Ab zs hd fs nx se th li it tr L c) : w.cell? ⟨M, 4, none⟩ = some (.int .u64 se) := by have := h.mem; unfold Mem at this; simp [World.cell?, this]
theorem Mst.c5 (h : Mst w0 w M S D lv Ab zs hd fs nx se th li it tr L c) : w.cell? ⟨M, 5, none⟩ = some (.int .u32 th) := by have := h.mem; unfold Mem at this; simp [World.cell?, this]
theorem Mst.c6 (h : Mst w0 w M S D lv Ab zs hd fs nx se th li it tr L c) : w.cell? ⟨M, 6, none⟩ = some (.int .u32 li) := by have := h.mem; unfold Mem at this; simp [World.cell?, this]
theorem Mst.c7 (h : Mst w0 w M S D lv Ab zs hd fs nx se th li it tr L c) : w.cell? ⟨M, 7, none⟩ = some (.int .u32 it) := by have := h.mem; unfold Mem at this; simp [World.cell?, this]
theorem Mst.c8 (h : Mst w0 w M S D lv Ab zs hd fs nx se th li it tr L c) : w.cell? ⟨M, 8, none⟩ = some (.int .i64 tr) := by have := h.mem; unfold Mem at this; simp [World.cell?, this]
theorem Mst.left (h : Mst w0 w M S D lv Ab zs hd fs nx se th li it tr L c) {L' : List Int} {c' : Int} (k : Left S D L' c' w w') : Mst w0 w' M S D lv Ab zs hd fs nx se th li it tr L' c' :=
  ⟨(k.2.block M h.lt h.n1 h.n2).trans h.mem, k.1, h.n1, h.n2, h.lk.u3 (M := M) (.of_upd k.2) h.b2, h.b2, h.u.trans (.of_upd k.2)⟩
theorem Mst.step (h : Mst w0 w M S D lv Ab zs hd fs nx se th li it tr L c) (k : Below w.heap.size w w') : Mst w0 w' M S D lv Ab zs hd fs nx se th li it tr L c :=
  ⟨(k.block M h.lt).trans h.mem, h.st.below k, h.n1, h.n2, h.lk.below k, h.b2, h.u.trans (.of_below k)⟩
theorem Mst.drew (h : Mst w0 w M S D lv Ab zs hd fs nx se th li it tr L c) : Mst w0 w.drew M S D lv Ab zs hd fs nx se th li it tr L c := h.step (Below.refl _ _).drew
theorem Mst.put (h : Mst w0 w M S D lv Ab zs hd fs nx se th li it tr L c) (i : Nat) (y : Value) {fs' nx' : Value} {se' th' li' it' tr' : Int}
    (hh : (#[.int .i64 hd, lv, fs, nx, .int .u64 se, .int .u32 th, .int .u32 li, .int .u32 it, .int .i64 tr] : Array Value).setIfInBounds i y = #[.int .i64 hd, lv, fs', nx', .int .u64 se', .int .u32 th', .int .u32 li', .int .u32 it', .int .i64 tr']) :
    Mst w0 (w.setCell ⟨M, i, none⟩ y) M S D lv Ab zs hd fs' nx' se' th' li' it' tr' L c := by
  have u : U3 M M M w (w.setCell ⟨M, i, none⟩ y) := ⟨rfl, rfl, rfl, by simp, fun k hk h1 _ _ => heap_setCell_other w ⟨M, i, none⟩ k y h1⟩
  refine ⟨?_, ?_, h.n1, h.n2, h.lk.u3 u ⟨h.b2.1, h.b2.1, h.b2.1⟩, h.b2, h.u.setM i y⟩
  · unfold Mem
    rw [heap_setCell_same w M i _ 142 _ h.mem, hh]
  · have u : Upd M M w (w.setCell ⟨M, i, none⟩ y) := ⟨rfl, rfl, rfl, by simp, fun k hk h1 _ => heap_setCell_other w ⟨M, i, none⟩ k y h1⟩
    exact h.st.upd u (Ne.symm h.n1) (Ne.symm h.n1) (Ne.symm h.n2) (Ne.symm h.n2)
theorem Mst.p3 (h : Mst w0 w M S D lv Ab zs hd fs nx se th li it tr L c) (y : Value) : Mst w0 (w.setCell ⟨M, 3, none⟩ y) M S D lv Ab zs hd fs y se th li it tr L c := h.put 3 y rfl
theorem Mst.p4 (h : Mst w0 w M S D lv Ab zs hd fs nx se th li it tr L c) (y : Int) : Mst w0 (w.setCell ⟨M, 4, none⟩ (.int .u64 y)) M S D lv Ab zs hd fs nx y th li it tr L c := h.put 4 _ rfl
theorem Mst.p5 (h : Mst w0 w M S D lv Ab zs hd fs nx se th li it tr L c) (y : Int) : Mst w0 (w.setCell ⟨M, 5, none⟩ (.int .u32 y)) M S D lv Ab zs hd fs nx se y li it tr L c := h.put 5 _ rfl
theorem Mst.p6 (h : Mst w0 w M S D lv Ab zs hd fs nx se th li it tr L c) (y : Int) : Mst w0 (w.setCell ⟨M, 6, none⟩ (.int .u32 y)) M S D lv Ab zs hd fs nx se th y it tr L c := h.put 6 _ rfl
theorem Mst.p7 (h : Mst w0 w M S D lv Ab zs hd fs nx se th li it tr L c) (y : Int) : Mst w0 (w.setCell ⟨M, 7, none⟩ (.int .u32 y)) M S D lv Ab zs hd fs nx se th li y tr L c := h.put 7 _ rfl
theorem Mst.p8 (h : Mst w0 w M S D lv Ab zs hd fs nx se th li it tr L c) (y : Int) : Mst w0 (w.setCell ⟨M, 8, none⟩ (.int .i64 y)) M S D lv Ab zs hd fs nx se th li it y L c := h.put 8 _ rfl
end
end Go.Proofs.YthoiaffeenhfgaaGreat

namespace Go.Proofs.YthoiaffeenhfgaaGreat
open Go.RowKit
set_option linter.unusedVariables false
variable {w0 : World} {M S D Ab : Nat} {lv : Value} {zs : List Int} {hd : Int} {fs nx : Value} {se th li it tr : Int} {L : List Int} {c : Int}
def WW (L : List Int) : Prop := ∀ x ∈ L, 0 ≤ x ∧ x ≤ 18446744073709551615
theorem WW.ld (h : WW L) (a : Int) : 0 ≤ ldv L a ∧ ldv L a ≤ 18446744073709551615 := by
  unfold ldv; split
  · rename_i hh
    have hl := in_yes hh
    have hl2 : a.toNat < L.length := by omega
    rw [List.getD, List.getElem?_eq_getElem hl2]
    exact h _ (List.getElem_mem hl2)
  · omega
theorem Mst.fin {w : World} (h : Mst w0 w M S D lv Ab zs hd fs nx se th li it tr L c) (o : Int) :
    Mst w0 ((w.setCell ⟨M, 3, none⟩ .nilFunc).setCell ⟨M, 7, none⟩ (.int .u32 o)) M S D lv Ab zs hd fs .nilFunc se th li o tr L c := (h.p3 _).p7 _
set_option maxHeartbeats 1000000 in
theorem finish_any (o : Int) (w : World) (h : Mst w0 w M S D lv Ab zs hd fs nx se th li it tr L c) :
    Calls Tryz.prog 130 #[ptr M, .int .u32 o] w fun a w' => a = .returned (.tuple #[]) ∧ Mst w0 w' M S D lv Ab zs hd fs .nilFunc se th li o tr L c := by
  have HL := Lib.hid (h.fin o)
  have c3 := h.c3; have f3 := h.f 3; have c7 := h.c7; have f7 := h.f 7
  clear h
  go_enter Tryz.func130, Tryz.ntmps130
  go_wp2
  go_returns
  exact ⟨rfl, HL.out⟩
set_option maxHeartbeats 1000000 in
theorem see_any (w : World) (h : Mst w0 w M S D lv Ab zs hd fs nx se th li it tr L c) (h0 : 0 ≤ c) (h1 : c ≤ 1000000000) (t0 : 0 ≤ tr) (t1 : tr ≤ 1000000000) (ww : WW L) :
    Calls Tryz.prog 129 #[ptr M, ptr S] w fun a w' => a = .returned (.int .u32 (lowOf (ldv L hd))) ∧ Mst w0 w' M S D lv Ab zs hd fs nx (ldv L hd) th li it (tr + 1) L (c + 1) := by
  have c8 := h.c8; have f8 := h.f 8
  have HK := Lib.hid (h.p8 (tr + 1)); clear h
  have c0 := HK.out.c0
  obtain ⟨y, hy⟩ : ∃ y, y = ldv L hd := ⟨_, rfl⟩
  rw [← hy]
  have HY := Lib.hid hy
  have y0 : 0 ≤ y := by rw [hy]; exact (ww.ld hd).1
  have y1 : y ≤ 18446744073709551615 := by rw [hy]; exact (ww.ld hd).2
  clear hy ww
  go_enter Tryz.func129, Tryz.ntmps129
  go_wp2_with (first
    | (go_at_call 25; (with_reducible refine (load_any _ _ HK.out.st h0 h1).mono ?_); rintro r w1 ⟨rfl, hk⟩; rw [← HY.out]; have HQ := Lib.hid (HK.out.left hk); have c4 := HQ.out.c4; have f4 := HQ.out.f 4; have HL := Lib.hid (HQ.out.p4 y); clear hk)
    | (go_at_call 146; (with_reducible refine (low_any _ y0 y1 _).mono ?_); rintro r w2 ⟨rfl, hb⟩; have HE := Lib.hid (HL.out.step hb); clear hb)
    | fail)
  go_ret
  exact ⟨rfl, HE.out⟩
set_option maxHeartbeats 1000000 in
theorem seeHead_any (w : World) (h : Mst w0 w M S D lv Ab zs hd fs nx se th li it tr L c) (h0 : 0 ≤ c) (h1 : c ≤ 1000000000) (t0 : 0 ≤ tr) (t1 : tr ≤ 1000000000) (ww : WW L) :
    Calls Tryz.prog 170 #[ptr M, ptr S] w fun a w' => a = .returned (.tuple #[]) ∧ Mst w0 w' M S D lv Ab zs hd fs (fnv 183 M) (ldv L hd) th (lowOf (ldv L hd)) it (tr + 1) L (c + 1) := by
  have hmf : ∀ (fn : Fn) (first cap : Array Value) (w : World), (Instr.makeFunc fn first cap).run Tryz.prog w = .ok (.func fn first cap) w := fun _ _ _ _ => rfl
  have H := Lib.hid h; clear h
  go_enter Tryz.func170, Tryz.ntmps170
  go_wp2_with (first
    | (go_at_call 129; (with_reducible refine (see_any _ H.out h0 h1 t0 t1 ww).mono ?_); rintro r w1 ⟨rfl, hk⟩; have HQ := Lib.hid hk; clear hk; have c6 := HQ.out.c6; have f6 := HQ.out.f 6; have HP := Lib.hid (HQ.out.p6 (lowOf (ldv L hd))); have c3 := HP.out.c3; have f3 := HP.out.f 3; have HL := Lib.hid (HP.out.p3 (fnv 183 M)))
    | fail)
  go_returns
  exact ⟨rfl, HL.out⟩
set_option maxHeartbeats 1000000 in
theorem seeThing_any (w : World) (h : Mst w0 w M S D lv Ab zs hd fs nx se th li it tr L c) (h0 : 0 ≤ c) (h1 : c ≤ 1000000000) (t0 : 0 ≤ tr) (t1 : tr ≤ 1000000000) (ww : WW L) :
    Calls Tryz.prog 115 #[ptr M, ptr S] w fun a w' => a = .returned (.tuple #[]) ∧
      Mst w0 w' M S D lv Ab zs hd fs (if lowOf (ldv L hd) = 0 then .nilFunc else fnv 131 M) (ldv L hd) (lowOf (ldv L hd)) li (if lowOf (ldv L hd) = 0 then 0 else it) (tr + 1) L (c + 1) := by
  have hmf : ∀ (fn : Fn) (first cap : Array Value) (w : World), (Instr.makeFunc fn first cap).run Tryz.prog w = .ok (.func fn first cap) w := fun _ _ _ _ => rfl
  have H := Lib.hid h; clear h
  obtain ⟨y, hy⟩ : ∃ y, y = lowOf (ldv L hd) := ⟨_, rfl⟩
  rw [← hy]
  have HY := Lib.hid hy; clear hy
  by_cases hz : y = 0
  · rw [if_pos hz, if_pos hz]
    have hz2 : (y == 0) = true := by simpa using hz
    subst hz
    go_enter Tryz.func115, Tryz.ntmps115
    go_wp2_with (first
      | (go_at_call 129; (with_reducible refine (see_any _ H.out h0 h1 t0 t1 ww).mono ?_); rintro r w1 ⟨rfl, hk⟩; rw [← HY.out]; have HQ := Lib.hid hk; clear hk; have c5 := HQ.out.c5; have f5 := HQ.out.f 5; have HP := Lib.hid (HQ.out.p5 0); have d5 := HP.out.c5)
      | (go_at_call 130; (with_reducible refine (finish_any 0 _ HP.out).mono ?_); rintro r w2 ⟨rfl, hk⟩; have HL := Lib.hid hk; clear hk)
      | fail)
    go_returns
    exact ⟨rfl, HL.out⟩
  · rw [if_neg hz, if_neg hz]
    have hz2 : (y == 0) = false := by simpa using hz
    go_enter Tryz.func115, Tryz.ntmps115
    go_wp2_with (first
      | (go_at_call 129; (with_reducible refine (see_any _ H.out h0 h1 t0 t1 ww).mono ?_); rintro r w1 ⟨rfl, hk⟩; rw [← HY.out]; have HQ := Lib.hid hk; clear hk; have c5 := HQ.out.c5; have f5 := HQ.out.f 5; have HP := Lib.hid (HQ.out.p5 y); have d5 := HP.out.c5; have c3 := HP.out.c3; have f3 := HP.out.f 3; have HL := Lib.hid (HP.out.p3 (fnv 131 M)))
      | fail)
    go_returns
    exact ⟨rfl, HL.out⟩
end Go.Proofs.YthoiaffeenhfgaaGreat

namespace Go.Proofs.YthoiaffeenhfgaaGreat.Dg
open Go.RowKit
set_option linter.unusedVariables false
set_option maxRecDepth 100000
set_option maxHeartbeats 400000 in
theorem part_any (b x : Int) (hb : 1 ≤ b) (hb2 : b ≤ 18446744073709551615) (hx : 0 ≤ x) (hx2 : x ≤ 18446744073709551615) (w : World) :
    Calls Tryz.prog 83 #[.int .u64 b, .int .u64 x] w fun e w' => e = .returned (.agg #[.int .u64 (x / b), .int .u64 (x % b)]) ∧ Below w.heap.size w w' := by
  go_enter Tryz.func83, Tryz.ntmps83
  go_wp2
  go_region
  all_goals go_wp2
  all_goals (refine bodyPost_ret (v := .agg #[.int .u64 (x / b), .int .u64 (x % b)]) (by simp [results, Tryz.results83, go_sem]) rfl ⟨rfl, ?_⟩)
  all_goals exact ((Below.refl _ _).alloc (Nat.le_refl _) _).drew
def aheadOf (x y : Int) : Int := if (x - y) % 18446744073709551616 < 9223372036854775808 then (x - y) % 18446744073709551616 else (x - y) % 18446744073709551616 - 18446744073709551616
theorem bcell {W w1 : World} (hb : Below W.heap.size W w1) : (∀ b o, b < W.heap.size → w1.cell? ⟨b, o, none⟩ = W.cell? ⟨b, o, none⟩) ∧ (∀ b o, b < W.heap.size → w1.frozen? ⟨b, o, none⟩ = W.frozen? ⟨b, o, none⟩) :=
  ⟨fun b o h => hb.cell (p := ⟨b, o, none⟩) h, fun b o h => hb.frozen (p := ⟨b, o, none⟩) h⟩
@[go_sem] theorem eq72 (a b c d : Int) (w : World) : (Op.equalIn 10000 99 (.agg #[.int .u64 a, .int .u64 b]) (.agg #[.int .u64 c, .int .u64 d])).run Tryz.prog w = .ok (a == c && b == d) w := by
  have u3 := Tryz.underlying39
  have a3 := Tryz.isAgg39
  have z3 := Tryz.sizeOf39
  rw [show (10000 : Nat) = 9999 + 1 from rfl, Op.equalIn]
  simp only [Sem.run_bind, run_underlying Tryz.underlying99, Result.andThen_ok]
  simp only [Std.Legacy.Range.forIn_eq_forIn_range', Std.Legacy.Range.size, Nat.sub_zero, Nat.add_sub_cancel, Nat.div_one, List.range'_succ, List.range'_zero, List.forIn_cons, List.forIn_nil]
  go_simp
  by_cases h1 : a = c <;> by_cases h2 : b = d <;> simp [h1, h2]
set_option maxHeartbeats 400000 in
theorem holds_any (d x y : Int) (hd : 0 ≤ d) (hd2 : d ≤ 18446744073709551615) (w : World) :
    Calls Tryz.prog 153 #[.func (.func 83) #[.int .u64 4294967296] #[], .int .u64 d, .agg #[.int .u64 x, .int .u64 y]] w fun e w' => e = .returned (.bool (d / 4294967296 == x && d % 4294967296 == y)) ∧ Below w.heap.size w w' := by
  go_enter Tryz.func153, Tryz.ntmps153
  go_wp2
  go_region_with (first | (go_at_call 83; refine (part_any 4294967296 d (by omega) (by omega) hd hd2 _).mono ?_; rintro e w1 ⟨rfl, hb⟩; obtain ⟨hc, hf⟩ := bcell hb))
  all_goals go_wp2
  all_goals go_ret
  all_goals exact ⟨rfl, below_step ((Below.refl _ _).alloc (Nat.le_refl _) _).drew (by simp) hb⟩
theorem holds_is (d x y : Int) (t : Bool) (hd : 0 ≤ d) (hd2 : d ≤ 18446744073709551615) (ht : (d / 4294967296 == x && d % 4294967296 == y) = t) (w : World) :
    Calls Tryz.prog 153 #[.func (.func 83) #[.int .u64 4294967296] #[], .int .u64 d, .agg #[.int .u64 x, .int .u64 y]] w fun e w' => e = .returned (.bool t) ∧ Below w.heap.size w w' :=
  (holds_any d x y hd hd2 w).mono fun _ _ ⟨he, hb⟩ => ⟨by rw [he, ht], hb⟩
set_option maxHeartbeats 400000 in
theorem ahead_walk (a b : Int) (w : World) :
    Calls Tryz.prog 134 #[.int .u64 a, .int .u64 b] w fun e w' => e = .returned (.int .i64 (aheadOf a b)) ∧ Below w.heap.size w w' := by
  have ew : IntKind.u64.wrap (a - b) = (a - b) % 18446744073709551616 := IntKind.wrap_u64 _
  have ew2 : IntKind.u64.wrap (b - a) = (b - a) % 18446744073709551616 := IntKind.wrap_u64 _
  have d0 : 0 ≤ IntKind.u64.wrap (a - b) := by omega
  have d1 : IntKind.u64.wrap (a - b) ≤ 18446744073709551615 := by omega
  have hmf : ∀ (fn : Fn) (first cap : Array Value) (w : World), (Instr.makeFunc fn first cap).run Tryz.prog w = .ok (.func fn first cap) w := fun _ _ _ _ => rfl
  by_cases h : IntKind.u64.wrap (a - b) = 9223372036854775808
  · have hz : aheadOf a b = -9223372036854775808 := by unfold aheadOf; split <;> omega
    have ht : (IntKind.u64.wrap (a - b) / 4294967296 == 2147483648 && IntKind.u64.wrap (a - b) % 4294967296 == 0) = true := by rw [h]; decide
    clear h ew ew2
    have HT := Lib.hid ht; clear ht
    have HZ := Lib.hid hz; clear hz
    go_enter Tryz.func134, Tryz.ntmps134
    go_wp2_with (go_at_call 153; refine (holds_is _ _ _ true d0 d1 HT.out _).mono ?_; rintro e w1 ⟨rfl, hb⟩)
    go_ret
    exact ⟨ret_int HZ.out.symm, hb⟩
  · have ht : (IntKind.u64.wrap (a - b) / 4294967296 == 2147483648 && IntKind.u64.wrap (a - b) % 4294967296 == 0) = false := by
      rw [Bool.eq_false_iff]; intro h2; simp at h2; omega
    have HT := Lib.hid ht; clear ht
    by_cases hl : IntKind.u64.wrap (a - b) < 9223372036854775808
    · have hz : aheadOf a b = IntKind.u64.wrap (a - b) := by unfold aheadOf; split <;> omega
      have HZ := Lib.hid hz; clear hz ew ew2 h
      go_enter Tryz.func134, Tryz.ntmps134
      go_wp2_with (go_at_call 153; refine (holds_is _ _ _ false d0 d1 HT.out _).mono ?_; rintro e w1 ⟨rfl, hb⟩)
      go_ret
      exact ⟨ret_int HZ.out.symm, hb⟩
    · have hz : aheadOf a b = - IntKind.u64.wrap (b - a) := by unfold aheadOf; split <;> omega
      have e0 : 0 ≤ IntKind.u64.wrap (b - a) := by omega
      have e1 : IntKind.u64.wrap (b - a) ≤ 9223372036854775807 := by omega
      have HZ := Lib.hid hz; clear hz ew ew2 h
      go_enter Tryz.func134, Tryz.ntmps134
      go_wp2_with (go_at_call 153; refine (holds_is _ _ _ false d0 d1 HT.out _).mono ?_; rintro e w1 ⟨rfl, hb⟩)
      go_ret
      exact ⟨ret_int HZ.out.symm, hb⟩
end Go.Proofs.YthoiaffeenhfgaaGreat.Dg

namespace Go.Proofs.YthoiaffeenhfgaaGreat.Dg
open Go.RowKit
set_option linter.unusedVariables false
set_option maxRecDepth 100000
def Mem (w : World) (M : Nat) (e : En) (nx : Value) (t b v r x : Int) : Prop :=
  w.heap[M]? = some (.cells #[.int .i64 e.top, .int .i64 e.bot, .int .i64 e.ent, .int .i64 (roomOf e), nx, .int .u64 t, .int .u64 b, .int .u64 v, .int .i64 r, .int .u64 x] 134 (0, 0))
structure Mst (w0 w : World) (M S D : Nat) (e : En) (nx : Value) (t b v r x : Int) (L : List Int) (c : Int) : Prop where
  mem : Mem w M e nx t b v r x
  st : St w S D L c
  n1 : M ≠ S
  n2 : M ≠ D
  u : U3 M S D w0 w
section
variable {w0 w w' : World} {M S D : Nat} {e : En} {nx : Value} {t b v r x : Int} {L : List Int} {c : Int}
theorem Mst.lt (h : Mst w0 w M S D e nx t b v r x L c) : M < w.heap.size := (Array.getElem?_eq_some_iff.1 h.mem).1
theorem Mst.f (h : Mst w0 w M S D e nx t b v r x L c) (j : Nat) : w.frozen? ⟨M, j, none⟩ = false := frozen_of_row w M j _ _ h.mem
theorem Mst.c0 (h : Mst w0 w M S D e nx t b v r x L c) : w.cell? ⟨M, 0, none⟩ = some (.int .i64 e.top) := by have := h.mem; unfold Mem at this; simp [World.cell?, this]
theorem Mst.c1 (h : Mst w0 w M S D e nx t b v r x L c) : w.cell? ⟨M, 1, none⟩ = some (.int .i64 e.bot) := by have := h.mem; unfold Mem at this; simp [World.cell?, this]
theorem Mst.c2 (h : Mst w0 w M S D e nx t b v r x L c) : w.cell? ⟨M, 2, none⟩ = some (.int .i64 e.ent) := by have := h.mem; unfold Mem at this; simp [World.cell?, this]
theorem Mst.c3 (h : Mst w0 w M S D e nx t b v r x L c) : w.cell? ⟨M, 3, none⟩ = some (.int .i64 (roomOf e)) := by have := h.mem; unfold Mem at this; simp [World.cell?, this]
theorem Mst.c4 (h : Mst w0 w M S D e nx t b v r x L c) : w.cell? ⟨M, 4, none⟩ = some nx := by have := h.mem; unfold Mem at this; simp [World.cell?, this]
theorem Mst.c5 (h : Mst w0 w M S D e nx t b v r x L c) : w.cell? ⟨M, 5, none⟩ = some (.int .u64 t) := by have := h.mem; unfold Mem at this; simp [World.cell?, this]
theorem Mst.c6 (h : Mst w0 w M S D e nx t b v r x L c) : w.cell? ⟨M, 6, none⟩ = some (.int .u64 b) := by have := h.mem; unfold Mem at this; simp [World.cell?, this]
theorem Mst.c7 (h : Mst w0 w M S D e nx t b v r x L c) : w.cell? ⟨M, 7, none⟩ = some (.int .u64 v) := by have := h.mem; unfold Mem at this; simp [World.cell?, this]
theorem Mst.c8 (h : Mst w0 w M S D e nx t b v r x L c) : w.cell? ⟨M, 8, none⟩ = some (.int .i64 r) := by have := h.mem; unfold Mem at this; simp [World.cell?, this]
theorem Mst.c9 (h : Mst w0 w M S D e nx t b v r x L c) : w.cell? ⟨M, 9, none⟩ = some (.int .u64 x) := by have := h.mem; unfold Mem at this; simp [World.cell?, this]
theorem Mst.left (h : Mst w0 w M S D e nx t b v r x L c) {L' : List Int} {c' : Int} (k : Left S D L' c' w w') : Mst w0 w' M S D e nx t b v r x L' c' :=
  ⟨(k.2.block M h.lt h.n1 h.n2).trans h.mem, k.1, h.n1, h.n2, h.u.trans (.of_upd k.2)⟩
theorem Mst.step (h : Mst w0 w M S D e nx t b v r x L c) (k : Below w.heap.size w w') : Mst w0 w' M S D e nx t b v r x L c :=
  ⟨(k.block M h.lt).trans h.mem, h.st.below k, h.n1, h.n2, h.u.trans (.of_below k)⟩
theorem Mst.drew (h : Mst w0 w M S D e nx t b v r x L c) : Mst w0 w.drew M S D e nx t b v r x L c := h.step (Below.refl _ _).drew
theorem Mst.put (h : Mst w0 w M S D e nx t b v r x L c) (i : Nat) (y : Value) {nx' : Value} {t' b' v' r' x' : Int}
    (hh : (#[.int .i64 e.top, .int .i64 e.bot, .int .i64 e.ent, .int .i64 (roomOf e), nx, .int .u64 t, .int .u64 b, .int .u64 v, .int .i64 r, .int .u64 x] : Array Value).setIfInBounds i y = #[.int .i64 e.top, .int .i64 e.bot, .int .i64 e.ent, .int .i64 (roomOf e), nx', .int .u64 t', .int .u64 b', .int .u64 v', .int .i64 r', .int .u64 x']) :
    Mst w0 (w.setCell ⟨M, i, none⟩ y) M S D e nx' t' b' v' r' x' L c := by
  refine ⟨?_, ?_, h.n1, h.n2, h.u.setM i y⟩
  · unfold Mem
    rw [heap_setCell_same w M i _ 134 _ h.mem, hh]
  · have u : Upd M M w (w.setCell ⟨M, i, none⟩ y) := ⟨rfl, rfl, rfl, by simp, fun k hk h1 _ => heap_setCell_other w ⟨M, i, none⟩ k y h1⟩
    exact h.st.upd u (Ne.symm h.n1) (Ne.symm h.n1) (Ne.symm h.n2) (Ne.symm h.n2)
theorem Mst.p4 (h : Mst w0 w M S D e nx t b v r x L c) (y : Value) : Mst w0 (w.setCell ⟨M, 4, none⟩ y) M S D e y t b v r x L c := h.put 4 y rfl
theorem Mst.p5 (h : Mst w0 w M S D e nx t b v r x L c) (y : Int) : Mst w0 (w.setCell ⟨M, 5, none⟩ (.int .u64 y)) M S D e nx y b v r x L c := h.put 5 _ rfl
theorem Mst.p6 (h : Mst w0 w M S D e nx t b v r x L c) (y : Int) : Mst w0 (w.setCell ⟨M, 6, none⟩ (.int .u64 y)) M S D e nx t y v r x L c := h.put 6 _ rfl
theorem Mst.p7 (h : Mst w0 w M S D e nx t b v r x L c) (y : Int) : Mst w0 (w.setCell ⟨M, 7, none⟩ (.int .u64 y)) M S D e nx t b y r x L c := h.put 7 _ rfl
theorem Mst.p8 (h : Mst w0 w M S D e nx t b v r x L c) (y : Int) : Mst w0 (w.setCell ⟨M, 8, none⟩ (.int .i64 y)) M S D e nx t b v y x L c := h.put 8 _ rfl
theorem Mst.p9 (h : Mst w0 w M S D e nx t b v r x L c) (y : Int) : Mst w0 (w.setCell ⟨M, 9, none⟩ (.int .u64 y)) M S D e nx t b v r y L c := h.put 9 _ rfl
end
end Go.Proofs.YthoiaffeenhfgaaGreat.Dg

namespace Go.Proofs.YthoiaffeenhfgaaGreat.Dg
open Go.RowKit
set_option linter.unusedVariables false
set_option maxRecDepth 100000
variable {w0 : World} {M S D : Nat} {e : En} {nx : Value} {t b v r x : Int} {L : List Int} {c : Int}
theorem Mst.fin {w : World} (h : Mst w0 w M S D e nx t b v r x L c) (o y : Int) :
    Mst w0 (((w.setCell ⟨M, 4, none⟩ .nilFunc).setCell ⟨M, 8, none⟩ (.int .i64 o)).setCell ⟨M, 9, none⟩ (.int .u64 y)) M S D e .nilFunc t b v o y L c := ((h.p4 _).p8 _).p9 _
set_option maxHeartbeats 1000000 in
theorem finish_any (o y : Int) (w : World) (h : Mst w0 w M S D e nx t b v r x L c) :
    Calls Tryz.prog 135 #[ptr M, .int .i64 o, .int .u64 y] w fun a w' => a = .returned (.tuple #[]) ∧ Mst w0 w' M S D e .nilFunc t b v o y L c := by
  have HL := Lib.hid (h.fin o y)
  have c4 := h.c4; have f4 := h.f 4; have c8 := h.c8; have f8 := h.f 8; have c9 := h.c9; have f9 := h.f 9
  clear h
  go_enter Tryz.func135, Tryz.ntmps135
  go_wp2
  go_returns
  exact ⟨rfl, HL.out⟩
theorem Mst.see6 {w : World} (h : Mst w0 w M S D e nx t b v r x L c) (y : Int) (f : Value) : Mst w0 ((w.setCell ⟨M, 6, none⟩ (.int .u64 y)).setCell ⟨M, 4, none⟩ f) M S D e f t y v r x L c := (h.p6 y).p4 f
theorem Mst.see5 {w : World} (h : Mst w0 w M S D e nx t b v r x L c) (y : Int) (f : Value) : Mst w0 ((w.setCell ⟨M, 5, none⟩ (.int .u64 y)).setCell ⟨M, 4, none⟩ f) M S D e f y b v r x L c := (h.p5 y).p4 f
set_option maxHeartbeats 1000000 in
theorem seeBottom_any (w : World) (h : Mst w0 w M S D e nx t b v r x L c) (h0 : 0 ≤ c) (h1 : c ≤ 1000000000) :
    Calls Tryz.prog 103 #[ptr M, ptr S] w fun a w' => a = .returned (.tuple #[]) ∧ Mst w0 w' M S D e (fnv 117 M) t (ldv L e.bot) v r x L (c + 1) := by
  have hmf : ∀ (fn : Fn) (first cap : Array Value) (w : World), (Instr.makeFunc fn first cap).run Tryz.prog w = .ok (.func fn first cap) w := fun _ _ _ _ => rfl
  have c1 := h.c1
  have H := Lib.hid h; clear h
  go_enter Tryz.func103, Tryz.ntmps103
  go_wp2_with (first
    | (go_at_call 25; (with_reducible refine (load_any _ _ H.out.st h0 h1).mono ?_); rintro r w1 ⟨rfl, hk⟩; have HK := Lib.hid (H.out.left hk); have c4 := HK.out.c4; have f4 := HK.out.f 4; have c6 := HK.out.c6; have f6 := HK.out.f 6; have HL := Lib.hid (HK.out.see6 (ldv L e.bot) (fnv 117 M)); clear hk)
    | fail)
  go_returns
  exact ⟨rfl, HL.out⟩
set_option maxHeartbeats 1000000 in
theorem seeFirst_any (w : World) (h : Mst w0 w M S D e nx t b v r x L c) (h0 : 0 ≤ c) (h1 : c ≤ 1000000000) :
    Calls Tryz.prog 205 #[ptr M, ptr S] w fun a w' => a = .returned (.tuple #[]) ∧ Mst w0 w' M S D e (fnv 210 M) (ldv L e.top) b v r x L (c + 1) := by
  have hmf : ∀ (fn : Fn) (first cap : Array Value) (w : World), (Instr.makeFunc fn first cap).run Tryz.prog w = .ok (.func fn first cap) w := fun _ _ _ _ => rfl
  have c1 := h.c0
  have H := Lib.hid h; clear h
  go_enter Tryz.func205, Tryz.ntmps205
  go_wp2_with (first
    | (go_at_call 25; (with_reducible refine (load_any _ _ H.out.st h0 h1).mono ?_); rintro r w1 ⟨rfl, hk⟩; have HK := Lib.hid (H.out.left hk); have c4 := HK.out.c4; have f4 := HK.out.f 4; have c6 := HK.out.c5; have f6 := HK.out.f 5; have HL := Lib.hid (HK.out.see5 (ldv L e.top) (fnv 210 M)); clear hk)
    | fail)
  go_returns
  exact ⟨rfl, HL.out⟩
set_option maxHeartbeats 1000000 in
theorem seeLast_any (w : World) (h : Mst w0 w M S D e nx t b v r x L c) (h0 : 0 ≤ c) (h1 : c ≤ 1000000000) :
    Calls Tryz.prog 137 #[ptr M, ptr S] w fun a w' => a = .returned (.tuple #[]) ∧ Mst w0 w' M S D e (fnv 156 M) t (IntKind.u64.wrap (ldv L e.bot - 1)) v r x L (c + 1) := by
  have hmf : ∀ (fn : Fn) (first cap : Array Value) (w : World), (Instr.makeFunc fn first cap).run Tryz.prog w = .ok (.func fn first cap) w := fun _ _ _ _ => rfl
  have c1 := h.c1
  have H := Lib.hid h; clear h
  obtain ⟨y, hy⟩ : ∃ y, y = IntKind.u64.wrap (ldv L e.bot - 1) := ⟨_, rfl⟩
  rw [← hy]
  have hy' := hy.symm; clear hy
  go_enter Tryz.func137, Tryz.ntmps137
  go_wp2_with (first
    | (go_at_call 25; (with_reducible refine (load_any _ _ H.out.st h0 h1).mono ?_); rintro r w1 ⟨rfl, hk⟩; have HK := Lib.hid (H.out.left hk); have c4 := HK.out.c4; have f4 := HK.out.f 4; have c6 := HK.out.c6; have f6 := HK.out.f 6; have HL := Lib.hid (HK.out.see6 y (fnv 156 M)); clear hk)
    | fail)
  go_returns
  exact ⟨rfl, HL.out⟩
end Go.Proofs.YthoiaffeenhfgaaGreat.Dg
