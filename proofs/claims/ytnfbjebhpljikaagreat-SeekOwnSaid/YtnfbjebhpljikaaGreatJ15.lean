/- How far a number is ahead of another one, walked. A deque's machine in memory: what it holds, and what stays while it goes on. The steps of a deque's machine, walked: its end, and the steps that look at a word alone. The steps of a deque's machine, walked: an entry's place, and the steps that compare the ends. The steps of a deque's machine, walked: those that compare the ends. The steps of a deque's machine, walked: those that turn the top. The steps of a deque's machine, walked: those at an entry. -/
import Derived.Test.YtnfbjebhpljikaaGreatJ1
import Derived.Test.YtnfbjebhpljikaaGreatJ3
import Derived.Test.YtnfbjebhpljikaaGreatDgPure
import Derived.Laws.EntriesVeiled
namespace Go.Proofs.YtnfbjebhpljikaaGreat.Dg
open Go.RowKit
set_option linter.unusedVariables false
set_option maxRecDepth 100000

set_option maxHeartbeats 400000 in
theorem part_any (b x : Int) (hb : 1 ≤ b) (hb2 : b ≤ 18446744073709551615) (hx : 0 ≤ x) (hx2 : x ≤ 18446744073709551615) (w : World) :
    Calls Tryz.prog 135 #[.int .u64 b, .int .u64 x] w fun e w' => e = .returned (.agg #[.int .u64 (x / b), .int .u64 (x % b)]) ∧ Below w.heap.size w w' := by
  go_enter Tryz.func135, Tryz.ntmps135
  go_wp2
  go_region
  all_goals go_wp2
  all_goals (refine bodyPost_ret (v := .agg #[.int .u64 (x / b), .int .u64 (x % b)]) (by simp [results, Tryz.results135, go_sem]) rfl ⟨rfl, ?_⟩)
  all_goals exact ((Below.refl _ _).alloc (Nat.le_refl _) _).drew

/-- How far x is ahead of y. -/
def aheadOf (x y : Int) : Int := if (x - y) % 18446744073709551616 < 9223372036854775808 then (x - y) % 18446744073709551616 else (x - y) % 18446744073709551616 - 18446744073709551616

theorem bcell {W w1 : World} (hb : Below W.heap.size W w1) : (∀ b o, b < W.heap.size → w1.cell? ⟨b, o, none⟩ = W.cell? ⟨b, o, none⟩) ∧ (∀ b o, b < W.heap.size → w1.frozen? ⟨b, o, none⟩ = W.frozen? ⟨b, o, none⟩) :=
  ⟨fun b o h => hb.cell (p := ⟨b, o, none⟩) h, fun b o h => hb.frozen (p := ⟨b, o, none⟩) h⟩

@[go_sem] theorem eq72 (a b c d : Int) (w : World) : (Op.equalIn 10000 105 (.agg #[.int .u64 a, .int .u64 b]) (.agg #[.int .u64 c, .int .u64 d])).run Tryz.prog w = .ok (a == c && b == d) w := by
  have u3 := Tryz.underlying37
  have a3 := Tryz.isAgg37
  have z3 := Tryz.sizeOf37
  rw [show (10000 : Nat) = 9999 + 1 from rfl, Op.equalIn]
  simp only [Sem.run_bind, run_underlying Tryz.underlying105, Result.andThen_ok]
  simp only [Std.Legacy.Range.forIn_eq_forIn_range', Std.Legacy.Range.size, Nat.sub_zero, Nat.add_sub_cancel, Nat.div_one, List.range'_succ, List.range'_zero, List.forIn_cons, List.forIn_nil]
  go_simp
  by_cases h1 : a = c <;> by_cases h2 : b = d <;> simp [h1, h2]

set_option maxHeartbeats 400000 in
theorem holds_any (d x y : Int) (hd : 0 ≤ d) (hd2 : d ≤ 18446744073709551615) (w : World) :
    Calls Tryz.prog 134 #[.func (.func 135) #[.int .u64 4294967296] #[], .int .u64 d, .agg #[.int .u64 x, .int .u64 y]] w fun e w' => e = .returned (.bool (d / 4294967296 == x && d % 4294967296 == y)) ∧ Below w.heap.size w w' := by
  go_enter Tryz.func134, Tryz.ntmps134
  go_wp2
  go_region_with (first | (go_at_call 135; refine (part_any 4294967296 d (by omega) (by omega) hd hd2 _).mono ?_; rintro e w1 ⟨rfl, hb⟩; obtain ⟨hc, hf⟩ := bcell hb))
  all_goals go_wp2
  all_goals go_ret
  all_goals exact ⟨rfl, below_step ((Below.refl _ _).alloc (Nat.le_refl _) _).drew (by simp) hb⟩

theorem holds_is (d x y : Int) (t : Bool) (hd : 0 ≤ d) (hd2 : d ≤ 18446744073709551615) (ht : (d / 4294967296 == x && d % 4294967296 == y) = t) (w : World) :
    Calls Tryz.prog 134 #[.func (.func 135) #[.int .u64 4294967296] #[], .int .u64 d, .agg #[.int .u64 x, .int .u64 y]] w fun e w' => e = .returned (.bool t) ∧ Below w.heap.size w w' :=
  (holds_any d x y hd hd2 w).mono fun _ _ ⟨he, hb⟩ => ⟨by rw [he, ht], hb⟩

set_option maxHeartbeats 400000 in
theorem ahead_walk (a b : Int) (w : World) :
    Calls Tryz.prog 118 #[.int .u64 a, .int .u64 b] w fun e w' => e = .returned (.int .i64 (aheadOf a b)) ∧ Below w.heap.size w w' := by
  have ew : IntKind.u64.wrap (a - b) = (a - b) % 18446744073709551616 := IntKind.wrap_u64 _
  have ew2 : IntKind.u64.wrap (b - a) = (b - a) % 18446744073709551616 := IntKind.wrap_u64 _
  have d0 : 0 ≤ IntKind.u64.wrap (a - b) := by omega
  have d1 : IntKind.u64.wrap (a - b) ≤ 18446744073709551615 := by omega
  have hmf : ∀ (fn : Fn) (first cap : Array Value) (w : World), (Instr.makeFunc fn first cap).run Tryz.prog w = .ok (.func fn first cap) w := fun _ _ _ _ => rfl
  by_cases h : IntKind.u64.wrap (a - b) = 9223372036854775808
  · have hz : aheadOf a b = -9223372036854775808 := by unfold aheadOf; split <;> omega
    have ht : (IntKind.u64.wrap (a - b) / 4294967296 == 2147483648 && IntKind.u64.wrap (a - b) % 4294967296 == 0) = true := by rw [h]; decide
    clear h ew ew2
    have HT := Lib.hid ht; clear ht
    have HZ := Lib.hid hz; clear hz
    go_enter Tryz.func118, Tryz.ntmps118
    go_wp2_with (go_at_call 134; refine (holds_is _ _ _ true d0 d1 HT.out _).mono ?_; rintro e w1 ⟨rfl, hb⟩)
    go_ret
    exact ⟨ret_int HZ.out.symm, hb⟩
  · have ht : (IntKind.u64.wrap (a - b) / 4294967296 == 2147483648 && IntKind.u64.wrap (a - b) % 4294967296 == 0) = false := by
      rw [Bool.eq_false_iff]; intro h2; simp at h2; omega
    have HT := Lib.hid ht; clear ht
    by_cases hl : IntKind.u64.wrap (a - b) < 9223372036854775808
    · have hz : aheadOf a b = IntKind.u64.wrap (a - b) := by unfold aheadOf; split <;> omega
      have HZ := Lib.hid hz; clear hz ew ew2 h
      go_enter Tryz.func118, Tryz.ntmps118
      go_wp2_with (go_at_call 134; refine (holds_is _ _ _ false d0 d1 HT.out _).mono ?_; rintro e w1 ⟨rfl, hb⟩)
      go_ret
      exact ⟨ret_int HZ.out.symm, hb⟩
    · have hz : aheadOf a b = - IntKind.u64.wrap (b - a) := by unfold aheadOf; split <;> omega
      have e0 : 0 ≤ IntKind.u64.wrap (b - a) := by omega
      have e1 : IntKind.u64.wrap (b - a) ≤ 9223372036854775807 := by omega
      have HZ := Lib.hid hz; clear hz ew ew2 h
      go_enter Tryz.func118, Tryz.ntmps118
      go_wp2_with (go_at_call 134; refine (holds_is _ _ _ false d0 d1 HT.out _).mono ?_; rintro e w1 ⟨rfl, hb⟩)
      go_ret
      exact ⟨ret_int HZ.out.symm, hb⟩

end Go.Proofs.YtnfbjebhpljikaaGreat.Dg

namespace Go.Proofs.YtnfbjebhpljikaaGreat.Dg
open Go.RowKit
set_option linter.unusedVariables false
set_option maxRecDepth 100000

/-- A machine's block. -/
def Mem (w : World) (M : Nat) (e : En) (nx : Value) (t b v r x : Int) : Prop :=
  w.heap[M]? = some (.cells #[.int .i64 e.top, .int .i64 e.bot, .int .i64 e.ent, .int .i64 (roomOf e), nx, .int .u64 t, .int .u64 b, .int .u64 v, .int .i64 r, .int .u64 x] 110 (0, 0))
/-- A machine and a store, apart. -/
structure Mst (w0 w : World) (M S D : Nat) (e : En) (nx : Value) (t b v r x : Int) (L : List Int) (c : Int) : Prop where
  mem : Mem w M e nx t b v r x
  st : St w S D L c
  n1 : M ≠ S
  n2 : M ≠ D
  u : U3 M S D w0 w
section
variable {w0 w w' : World} {M S D : Nat} {e : En} {nx : Value} {t b v r x : Int} {L : List Int} {c : Int}
theorem Mst.lt (h : Mst w0 w M S D e nx t b v r x L c) : M < w.heap.size := (Array.getElem?_eq_some_iff.1 h.mem).1
theorem Mst.f (h : Mst w0 w M S D e nx t b v r x L c) (j : Nat) : w.frozen? ⟨M, j, none⟩ = false := frozen_of_row w M j _ _ h.mem
theorem Mst.c0 (h : Mst w0 w M S D e nx t b v r x L c) : w.cell? ⟨M, 0, none⟩ = some (.int .i64 e.top) := by have := h.mem; unfold Mem at this; simp [World.cell?, this]
theorem Mst.c1 (h : Mst w0 w M S D e nx t b v r x L c) : w.cell? ⟨M, 1, none⟩ = some (.int .i64 e.bot) := by have := h.mem; unfold Mem at this; simp [World.cell?, this]
theorem Mst.c2 (h : Mst w0 w M S D e nx t b v r x L c) : w.cell? ⟨M, 2, none⟩ = some (.int .i64 e.ent) := by have := h.mem; unfold Mem at this; simp [World.cell?, this]
theorem Mst.c3 (h : Mst w0 w M S D e nx t b v r x L c) : w.cell? ⟨M, 3, none⟩ = some (.int .i64 (roomOf e)) := by have := h.mem; unfold Mem at this; simp [World.cell?, this]
theorem Mst.c4 (h : Mst w0 w M S D e nx t b v r x L c) : w.cell? ⟨M, 4, none⟩ = some nx := by have := h.mem; unfold Mem at this; simp [World.cell?, this]
theorem Mst.c5 (h : Mst w0 w M S D e nx t b v r x L c) : w.cell? ⟨M, 5, none⟩ = some (.int .u64 t) := by have := h.mem; unfold Mem at this; simp [World.cell?, this]
theorem Mst.c6 (h : Mst w0 w M S D e nx t b v r x L c) : w.cell? ⟨M, 6, none⟩ = some (.int .u64 b) := by have := h.mem; unfold Mem at this; simp [World.cell?, this]
theorem Mst.c7 (h : Mst w0 w M S D e nx t b v r x L c) : w.cell? ⟨M, 7, none⟩ = some (.int .u64 v) := by have := h.mem; unfold Mem at this; simp [World.cell?, this]
theorem Mst.c8 (h : Mst w0 w M S D e nx t b v r x L c) : w.cell? ⟨M, 8, none⟩ = some (.int .i64 r) := by have := h.mem; unfold Mem at this; simp [World.cell?, this]
theorem Mst.c9 (h : Mst w0 w M S D e nx t b v r x L c) : w.cell? ⟨M, 9, none⟩ = some (.int .u64 x) := by have := h.mem; unfold Mem at this; simp [World.cell?, this]
theorem Mst.left (h : Mst w0 w M S D e nx t b v r x L c) {L' : List Int} {c' : Int} (k : Left S D L' c' w w') : Mst w0 w' M S D e nx t b v r x L' c' :=
  ⟨(k.2.block M h.lt h.n1 h.n2).trans h.mem, k.1, h.n1, h.n2, h.u.trans (.of_upd k.2)⟩
theorem Mst.step (h : Mst w0 w M S D e nx t b v r x L c) (k : Below w.heap.size w w') : Mst w0 w' M S D e nx t b v r x L c :=
  ⟨(k.block M h.lt).trans h.mem, h.st.below k, h.n1, h.n2, h.u.trans (.of_below k)⟩
theorem Mst.drew (h : Mst w0 w M S D e nx t b v r x L c) : Mst w0 w.drew M S D e nx t b v r x L c := h.step (Below.refl _ _).drew
theorem Mst.put (h : Mst w0 w M S D e nx t b v r x L c) (i : Nat) (y : Value) {nx' : Value} {t' b' v' r' x' : Int}
    (hh : (#[.int .i64 e.top, .int .i64 e.bot, .int .i64 e.ent, .int .i64 (roomOf e), nx, .int .u64 t, .int .u64 b, .int .u64 v, .int .i64 r, .int .u64 x] : Array Value).setIfInBounds i y = #[.int .i64 e.top, .int .i64 e.bot, .int .i64 e.ent, .int .i64 (roomOf e), nx', .int .u64 t', .int .u64 b', .int .u64 v', .int .i64 r', .int .u64 x']) :
    Mst w0 (w.setCell ⟨M, i, none⟩ y) M S D e nx' t' b' v' r' x' L c := by
  refine ⟨?_, ?_, h.n1, h.n2, h.u.setM i y⟩
  · unfold Mem
    rw [heap_setCell_same w M i _ 110 _ h.mem, hh]
  · have u : Upd M M w (w.setCell ⟨M, i, none⟩ y) := ⟨rfl, rfl, rfl, by simp, fun k hk h1 _ => heap_setCell_other w ⟨M, i, none⟩ k y h1⟩
    exact h.st.upd u (Ne.symm h.n1) (Ne.symm h.n1) (Ne.symm h.n2) (Ne.symm h.n2)
theorem Mst.p4 (h : Mst w0 w M S D e nx t b v r x L c) (y : Value) : Mst w0 (w.setCell ⟨M, 4, none⟩ y) M S D e y t b v r x L c := h.put 4 y rfl
theorem Mst.p5 (h : Mst w0 w M S D e nx t b v r x L c) (y : Int) : Mst w0 (w.setCell ⟨M, 5, none⟩ (.int .u64 y)) M S D e nx y b v r x L c := h.put 5 _ rfl
theorem Mst.p6 (h : Mst w0 w M S D e nx t b v r x L c) (y : Int) : Mst w0 (w.setCell ⟨M, 6, none⟩ (.int .u64 y)) M S D e nx t y v r x L c := h.put 6 _ rfl
theorem Mst.p7 (h : Mst w0 w M S D e nx t b v r x L c) (y : Int) : Mst w0 (w.setCell ⟨M, 7, none⟩ (.int .u64 y)) M S D e nx t b y r x L c := h.put 7 _ rfl
theorem Mst.p8 (h : Mst w0 w M S D e nx t b v r x L c) (y : Int) : Mst w0 (w.setCell ⟨M, 8, none⟩ (.int .i64 y)) M S D e nx t b v y x L c := h.put 8 _ rfl
theorem Mst.p9 (h : Mst w0 w M S D e nx t b v r x L c) (y : Int) : Mst w0 (w.setCell ⟨M, 9, none⟩ (.int .u64 y)) M S D e nx t b v r y L c := h.put 9 _ rfl
end
end Go.Proofs.YtnfbjebhpljikaaGreat.Dg

namespace Go.Proofs.YtnfbjebhpljikaaGreat.Dg
open Go.RowKit
set_option linter.unusedVariables false
set_option maxRecDepth 100000
variable {w0 : World} {M S D : Nat} {e : En} {nx : Value} {t b v r x : Int} {L : List Int} {c : Int}

theorem Mst.fin {w : World} (h : Mst w0 w M S D e nx t b v r x L c) (o y : Int) :
    Mst w0 (((w.setCell ⟨M, 4, none⟩ .nilFunc).setCell ⟨M, 8, none⟩ (.int .i64 o)).setCell ⟨M, 9, none⟩ (.int .u64 y)) M S D e .nilFunc t b v o y L c := ((h.p4 _).p8 _).p9 _
theorem Mst.hf {w : World} (h : Mst w0 w M S D e nx t b v r x L c) : (∀ j, w.frozen? ⟨M, j, none⟩ = false) := h.f

set_option maxHeartbeats 1000000 in
theorem finish_any (o y : Int) (w : World) (h : Mst w0 w M S D e nx t b v r x L c) :
    Calls Tryz.prog 119 #[ptr M, .int .i64 o, .int .u64 y] w fun a w' => a = .returned (.tuple #[]) ∧ Mst w0 w' M S D e .nilFunc t b v o y L c := by
  have HL := Lib.hid (h.fin o y)
  have c4 := h.c4; have f4 := h.f 4; have c8 := h.c8; have f8 := h.f 8; have c9 := h.c9; have f9 := h.f 9
  clear h
  go_enter Tryz.func119, Tryz.ntmps119
  go_wp2
  go_returns
  exact ⟨rfl, HL.out⟩

theorem Mst.see6 {w : World} (h : Mst w0 w M S D e nx t b v r x L c) (y : Int) (f : Value) : Mst w0 ((w.setCell ⟨M, 6, none⟩ (.int .u64 y)).setCell ⟨M, 4, none⟩ f) M S D e f t y v r x L c := (h.p6 y).p4 f
theorem Mst.see5 {w : World} (h : Mst w0 w M S D e nx t b v r x L c) (y : Int) (f : Value) : Mst w0 ((w.setCell ⟨M, 5, none⟩ (.int .u64 y)).setCell ⟨M, 4, none⟩ f) M S D e f y b v r x L c := (h.p5 y).p4 f

set_option maxHeartbeats 1000000 in
theorem seeBottom_any (w : World) (h : Mst w0 w M S D e nx t b v r x L c) (h0 : 0 ≤ c) (h1 : c ≤ 1000000000) :
    Calls Tryz.prog 89 #[ptr M, ptr S] w fun a w' => a = .returned (.tuple #[]) ∧ Mst w0 w' M S D e (fnv 105 M) t (ldv L e.bot) v r x L (c + 1) := by
  have hmf : ∀ (fn : Fn) (first cap : Array Value) (w : World), (Instr.makeFunc fn first cap).run Tryz.prog w = .ok (.func fn first cap) w := fun _ _ _ _ => rfl
  have c1 := h.c1
  have H := Lib.hid h; clear h
  go_enter Tryz.func89, Tryz.ntmps89
  go_wp2_with (first
    | (go_at_call 99; (with_reducible refine (load_any _ _ H.out.st h0 h1).mono ?_); rintro r w1 ⟨rfl, hk⟩; have HK := Lib.hid (H.out.left hk); have c4 := HK.out.c4; have f4 := HK.out.f 4; have c6 := HK.out.c6; have f6 := HK.out.f 6; have HL := Lib.hid (HK.out.see6 (ldv L e.bot) (fnv 105 M)); clear hk)
    | fail)
  go_returns
  exact ⟨rfl, HL.out⟩
set_option maxHeartbeats 1000000 in
theorem seeFirst_any (w : World) (h : Mst w0 w M S D e nx t b v r x L c) (h0 : 0 ≤ c) (h1 : c ≤ 1000000000) :
    Calls Tryz.prog 145 #[ptr M, ptr S] w fun a w' => a = .returned (.tuple #[]) ∧ Mst w0 w' M S D e (fnv 146 M) (ldv L e.top) b v r x L (c + 1) := by
  have hmf : ∀ (fn : Fn) (first cap : Array Value) (w : World), (Instr.makeFunc fn first cap).run Tryz.prog w = .ok (.func fn first cap) w := fun _ _ _ _ => rfl
  have c1 := h.c0
  have H := Lib.hid h; clear h
  go_enter Tryz.func145, Tryz.ntmps145
  go_wp2_with (first
    | (go_at_call 99; (with_reducible refine (load_any _ _ H.out.st h0 h1).mono ?_); rintro r w1 ⟨rfl, hk⟩; have HK := Lib.hid (H.out.left hk); have c4 := HK.out.c4; have f4 := HK.out.f 4; have c6 := HK.out.c5; have f6 := HK.out.f 5; have HL := Lib.hid (HK.out.see5 (ldv L e.top) (fnv 146 M)); clear hk)
    | fail)
  go_returns
  exact ⟨rfl, HL.out⟩
set_option maxHeartbeats 1000000 in
theorem seeLast_any (w : World) (h : Mst w0 w M S D e nx t b v r x L c) (h0 : 0 ≤ c) (h1 : c ≤ 1000000000) :
    Calls Tryz.prog 84 #[ptr M, ptr S] w fun a w' => a = .returned (.tuple #[]) ∧ Mst w0 w' M S D e (fnv 100 M) t (IntKind.u64.wrap (ldv L e.bot - 1)) v r x L (c + 1) := by
  have hmf : ∀ (fn : Fn) (first cap : Array Value) (w : World), (Instr.makeFunc fn first cap).run Tryz.prog w = .ok (.func fn first cap) w := fun _ _ _ _ => rfl
  have c1 := h.c1
  have H := Lib.hid h; clear h
  obtain ⟨y, hy⟩ : ∃ y, y = IntKind.u64.wrap (ldv L e.bot - 1) := ⟨_, rfl⟩
  rw [← hy]
  have hy' := hy.symm; clear hy
  go_enter Tryz.func84, Tryz.ntmps84
  go_wp2_with (first
    | (go_at_call 99; (with_reducible refine (load_any _ _ H.out.st h0 h1).mono ?_); rintro r w1 ⟨rfl, hk⟩; have HK := Lib.hid (H.out.left hk); have c4 := HK.out.c4; have f4 := HK.out.f 4; have c6 := HK.out.c6; have f6 := HK.out.f 6; have HL := Lib.hid (HK.out.see6 y (fnv 100 M)); clear hk)
    | fail)
  go_returns
  exact ⟨rfl, HL.out⟩
end Go.Proofs.YtnfbjebhpljikaaGreat.Dg

namespace Go.Proofs.YtnfbjebhpljikaaGreat.Dg
open Go.RowKit
set_option linter.unusedVariables false
set_option maxRecDepth 100000
variable {w0 : World} {M S D : Nat} {e : En} {nx : Value} {t b v r x : Int} {L : List Int} {c : Int}

/-- A deque's entries stand where places are. -/
structure EnOk (e : En) : Prop where
  lo : -1000000000 ≤ e.ent
  hi : e.ent ≤ 1000000000
  room : e.room ≤ 1000000000
theorem EnOk.rm (h : EnOk e) : 1 ≤ roomOf e ∧ roomOf e ≤ 1000000000 := by
  have := h.room
  unfold roomOf; split <;> omega

set_option maxHeartbeats 1000000 in
theorem place_any (n : Int) (h : EnOk e) (hn : 0 ≤ n) (w : World) :
    Calls Tryz.prog 136 #[.agg #[.int .i64 e.top, .int .i64 e.bot, .int .i64 e.ent, .int .i64 (roomOf e)], .int .u64 n] w fun a w' => a = .returned (.int .i64 (entOf e n)) ∧ Below w.heap.size w w' := by
  obtain ⟨r0, r1⟩ := h.rm
  have h0 := h.lo
  have h1 := h.hi
  obtain ⟨R, hR⟩ : ∃ R, R = roomOf e := ⟨_, rfl⟩
  obtain ⟨z, hz⟩ : ∃ z, z = entOf e n := ⟨_, rfl⟩
  have hz2 := hz
  unfold entOf at hz2
  rw [← hz]
  rw [← hR] at hz2 r0 r1 ⊢
  have m0 : 0 ≤ n % R := Int.emod_nonneg _ (by omega)
  have m1 : n % R < R := Int.emod_lt_of_pos _ (by omega)
  have e1 : IntKind.u64.wrap R = R := by rw [IntKind.wrap_u64]; omega
  have e2 : n.tmod R = n % R := Int.tmod_eq_emod_of_nonneg hn
  obtain ⟨y, hy⟩ : ∃ y, y = n % R := ⟨_, rfl⟩
  rw [← hy] at e2 hz2 m0 m1
  have e3 : IntKind.i64.wrap y = y := by rw [IntKind.wrap_i64]; omega
  have e5 : IntKind.u64.wrap y = y := by rw [IntKind.wrap_u64]; omega
  have e4 : IntKind.i64.wrap (e.ent + y) = z := by rw [IntKind.wrap_i64]; omega
  have hne : (R == 0) = false := by rw [beq_eq_false_iff_ne]; omega
  have hne2 : ¬ R = 0 := by omega
  clear hz hz2 hR hy
  go_enter Tryz.func136, Tryz.ntmps136
  go_wp2
  go_quiet (fail)
  go_wp2
  go_ret
  exact ⟨rfl, below_drewN ((Below.refl _ _).alloc (Nat.le_refl _) _) _⟩

/-- What of a machine is read in a step. -/
theorem Mst.cs {w : World} (h : Mst w0 w M S D e nx t b v r x L c) : w.cell? ⟨M, 0, none⟩ = some (.int .i64 e.top) ∧ w.cell? ⟨M, 1, none⟩ = some (.int .i64 e.bot) ∧ w.cell? ⟨M, 2, none⟩ = some (.int .i64 e.ent) ∧ w.cell? ⟨M, 3, none⟩ = some (.int .i64 (roomOf e)) ∧ w.cell? ⟨M, 5, none⟩ = some (.int .u64 t) ∧ w.cell? ⟨M, 6, none⟩ = some (.int .u64 b) :=
  ⟨h.c0, h.c1, h.c2, h.c3, h.c5, h.c6⟩

set_option maxHeartbeats 1000000 in
theorem seeRoom_any (w : World) (h : Mst w0 w M S D e nx t b v r x L c) (h0 : 0 ≤ c) (h1 : c ≤ 1000000000) :
    Calls Tryz.prog 105 #[ptr M, ptr S] w fun a w' => a = .returned (.tuple #[]) ∧
      Mst w0 w' M S D e (if roomOf e ≤ aheadOf b (ldv L e.top) then .nilFunc else fnv 120 M) (ldv L e.top) b v (if roomOf e ≤ aheadOf b (ldv L e.top) then 2 else r) (if roomOf e ≤ aheadOf b (ldv L e.top) then 0 else x) L (c + 1) := by
  have hmf : ∀ (fn : Fn) (first cap : Array Value) (w : World), (Instr.makeFunc fn first cap).run Tryz.prog w = .ok (.func fn first cap) w := fun _ _ _ _ => rfl
  have c1 := h.c0
  have H := Lib.hid h; clear h
  obtain ⟨T, hT⟩ : ∃ T, T = ldv L e.top := ⟨_, rfl⟩
  obtain ⟨A, hA⟩ : ∃ A, A = aheadOf b T := ⟨_, rfl⟩
  rw [← hT, ← hA]
  have HT := Lib.hid hT; have HA := Lib.hid hA; clear hT hA
  have HR : ∀ B : Bool, decide (roomOf e ≤ A) = B → Calls Tryz.prog 105 #[ptr M, ptr S] w fun a w' => a = .returned (.tuple #[]) ∧
      Mst w0 w' M S D e (if B = true then .nilFunc else fnv 120 M) T b v (if B = true then 2 else r) (if B = true then 0 else x) L (c + 1) := by
    intro B hB
    go_enter Tryz.func105, Tryz.ntmps105
    go_wp2_with (first
      | (go_at_call 99; (with_reducible refine (load_any _ _ H.out.st h0 h1).mono ?_); rintro r w1 ⟨rfl, hk⟩; rw [← HT.out]; have HK := Lib.hid (H.out.left hk); have c5 := HK.out.c5; have f5 := HK.out.f 5; have HL := Lib.hid (HK.out.p5 T); clear hk)
      | fail)
    obtain ⟨W, hW, hm⟩ : ∃ W, W = _ ∧ Mst w0 W M S D e nx T b v r x L (c + 1) := ⟨_, rfl, HL.out⟩
    rw [← hW]
    obtain ⟨q0, q1, q2, q3, q5, q6⟩ := hm.cs
    have HM := Lib.hid hm; have HMD := Lib.hid hm.drew
    clear hm HL HK c5 f5 hW
    go_region_held3 (fun w' => w'.cell? ⟨M, 0, none⟩ = some (.int .i64 e.top) ∧ w'.cell? ⟨M, 1, none⟩ = some (.int .i64 e.bot) ∧ w'.cell? ⟨M, 2, none⟩ = some (.int .i64 e.ent) ∧ w'.cell? ⟨M, 3, none⟩ = some (.int .i64 (roomOf e)) ∧ w'.cell? ⟨M, 5, none⟩ = some (.int .u64 T) ∧ w'.cell? ⟨M, 6, none⟩ = some (.int .u64 b))
      (first | exact HN.out.cs | exact HMD.out.cs | go_keep)
      (first
        | (go_at_call 118; (with_reducible refine (ahead_walk _ _ _).mono ?_); rintro r w3 ⟨rfl, hb⟩; rw [← HA.out]; have HN := Lib.hid (HMD.out.step hb); clear hb; have c4 := HN.out.c4; have f4 := HN.out.f 4; have HE := Lib.hid (HN.out.p4 (fnv 120 M)))
        | fail)
    clear q0 q1 q2 q3 q5 q6 HM HMD
    cases B
    · go_wp2
      go_returns
      exact ⟨rfl, HE.out⟩
    · go_wp2_with (first
        | (go_at_call 119; (with_reducible refine (finish_any 2 0 _ HN.out).mono ?_); rintro r w4 ⟨rfl, hz⟩)
        | fail)
      go_returns
      exact ⟨rfl, hz⟩
  by_cases hc : roomOf e ≤ A
  · simpa [hc] using HR true (by simpa using hc)
  · simpa [hc] using HR false (by simpa using hc)
end Go.Proofs.YtnfbjebhpljikaaGreat.Dg

namespace Go.Proofs.YtnfbjebhpljikaaGreat.Dg
open Go.RowKit
set_option linter.unusedVariables false
set_option maxRecDepth 100000
variable {w0 : World} {M S D : Nat} {e : En} {nx : Value} {t b v r x : Int} {L : List Int} {c : Int}

set_option maxHeartbeats 1000000 in
/-- Is there a last one? -/
theorem seeAny_any (w : World) (h : Mst w0 w M S D e nx t b v r x L c) (h0 : 0 ≤ c) (h1 : c ≤ 1000000000) :
    Calls Tryz.prog 115 #[ptr M, ptr S] w fun a w' => a = .returned (.tuple #[]) ∧
      Mst w0 w' M S D e (if 0 < (aheadOf (ldv L e.top) b) then fnv 129 M else fnv 130 M) (ldv L e.top) b v (if 0 < (aheadOf (ldv L e.top) b) then r else r) (if 0 < (aheadOf (ldv L e.top) b) then x else x) L (c + 1) := by
  have hmf : ∀ (fn : Fn) (first cap : Array Value) (w : World), (Instr.makeFunc fn first cap).run Tryz.prog w = .ok (.func fn first cap) w := fun _ _ _ _ => rfl
  have c1 := h.c0
  have H := Lib.hid h; clear h
  obtain ⟨T, hT⟩ : ∃ T, T = ldv L e.top := ⟨_, rfl⟩
  obtain ⟨A, hA⟩ : ∃ A, A = aheadOf T b := ⟨_, rfl⟩
  rw [← hT, ← hA]
  have HT := Lib.hid hT; have HA := Lib.hid hA; clear hT hA
  have HR : ∀ B : Bool, decide (0 < A) = B → Calls Tryz.prog 115 #[ptr M, ptr S] w fun a w' => a = .returned (.tuple #[]) ∧
      Mst w0 w' M S D e (if B = true then fnv 129 M else fnv 130 M) T b v (if B = true then r else r) (if B = true then x else x) L (c + 1) := by
    intro B hB
    go_enter Tryz.func115, Tryz.ntmps115
    go_wp2_with (first
      | (go_at_call 99; (with_reducible refine (load_any _ _ H.out.st h0 h1).mono ?_); rintro r w1 ⟨rfl, hk⟩; rw [← HT.out]; have HK := Lib.hid (H.out.left hk); have c5 := HK.out.c5; have f5 := HK.out.f 5; have HL := Lib.hid (HK.out.p5 T); clear hk)
      | fail)
    obtain ⟨W, hW, hm⟩ : ∃ W, W = _ ∧ Mst w0 W M S D e nx T b v r x L (c + 1) := ⟨_, rfl, HL.out⟩
    rw [← hW]
    obtain ⟨q0, q1, q2, q3, q5, q6⟩ := hm.cs
    have HM := Lib.hid hm; have HMD := Lib.hid hm.drew
    clear hm HL HK c5 f5 hW
    go_region_held3 (fun w' => w'.cell? ⟨M, 0, none⟩ = some (.int .i64 e.top) ∧ w'.cell? ⟨M, 1, none⟩ = some (.int .i64 e.bot) ∧ w'.cell? ⟨M, 2, none⟩ = some (.int .i64 e.ent) ∧ w'.cell? ⟨M, 3, none⟩ = some (.int .i64 (roomOf e)) ∧ w'.cell? ⟨M, 5, none⟩ = some (.int .u64 T) ∧ w'.cell? ⟨M, 6, none⟩ = some (.int .u64 b))
      (first | exact HN.out.cs | exact HMD.out.cs | go_keep)
      (first
        | (go_at_call 118; (with_reducible refine (ahead_walk _ _ _).mono ?_); rintro r w3 ⟨rfl, hb⟩; rw [← HA.out]; have HN := Lib.hid (HMD.out.step hb); clear hb; have c4 := HN.out.c4; have f4 := HN.out.f 4; have HE47 := Lib.hid (HN.out.p4 (fnv 129 M)); have HE48 := Lib.hid (HN.out.p4 (fnv 130 M)))
        | fail)
    clear q0 q1 q2 q3 q5 q6 HM HMD
    cases B
    · go_wp2
      go_returns
      exact ⟨rfl, HE48.out⟩
    · go_wp2
      go_returns
      exact ⟨rfl, HE47.out⟩
  by_cases hc : 0 < A
  · simpa [hc] using HR true (by simpa using hc)
  · simpa [hc] using HR false (by simpa using hc)
set_option maxHeartbeats 1000000 in
/-- Is there a first one? -/
theorem seeMore_any (w : World) (h : Mst w0 w M S D e nx t b v r x L c) (h0 : 0 ≤ c) (h1 : c ≤ 1000000000) :
    Calls Tryz.prog 146 #[ptr M, ptr S] w fun a w' => a = .returned (.tuple #[]) ∧
      Mst w0 w' M S D e (if (aheadOf (ldv L e.bot) t) ≤ 0 then .nilFunc else fnv 147 M) t (ldv L e.bot) v (if (aheadOf (ldv L e.bot) t) ≤ 0 then 3 else r) (if (aheadOf (ldv L e.bot) t) ≤ 0 then 0 else x) L (c + 1) := by
  have hmf : ∀ (fn : Fn) (first cap : Array Value) (w : World), (Instr.makeFunc fn first cap).run Tryz.prog w = .ok (.func fn first cap) w := fun _ _ _ _ => rfl
  have c1 := h.c1
  have H := Lib.hid h; clear h
  obtain ⟨T, hT⟩ : ∃ T, T = ldv L e.bot := ⟨_, rfl⟩
  obtain ⟨A, hA⟩ : ∃ A, A = aheadOf T t := ⟨_, rfl⟩
  rw [← hT, ← hA]
  have HT := Lib.hid hT; have HA := Lib.hid hA; clear hT hA
  have HR : ∀ B : Bool, decide (A ≤ 0) = B → Calls Tryz.prog 146 #[ptr M, ptr S] w fun a w' => a = .returned (.tuple #[]) ∧
      Mst w0 w' M S D e (if B = true then .nilFunc else fnv 147 M) t T v (if B = true then 3 else r) (if B = true then 0 else x) L (c + 1) := by
    intro B hB
    go_enter Tryz.func146, Tryz.ntmps146
    go_wp2_with (first
      | (go_at_call 99; (with_reducible refine (load_any _ _ H.out.st h0 h1).mono ?_); rintro r w1 ⟨rfl, hk⟩; rw [← HT.out]; have HK := Lib.hid (H.out.left hk); have c5 := HK.out.c6; have f5 := HK.out.f 6; have HL := Lib.hid (HK.out.p6 T); clear hk)
      | fail)
    obtain ⟨W, hW, hm⟩ : ∃ W, W = _ ∧ Mst w0 W M S D e nx t T v r x L (c + 1) := ⟨_, rfl, HL.out⟩
    rw [← hW]
    obtain ⟨q0, q1, q2, q3, q5, q6⟩ := hm.cs
    have HM := Lib.hid hm; have HMD := Lib.hid hm.drew
    clear hm HL HK c5 f5 hW
    go_region_held3 (fun w' => w'.cell? ⟨M, 0, none⟩ = some (.int .i64 e.top) ∧ w'.cell? ⟨M, 1, none⟩ = some (.int .i64 e.bot) ∧ w'.cell? ⟨M, 2, none⟩ = some (.int .i64 e.ent) ∧ w'.cell? ⟨M, 3, none⟩ = some (.int .i64 (roomOf e)) ∧ w'.cell? ⟨M, 5, none⟩ = some (.int .u64 t) ∧ w'.cell? ⟨M, 6, none⟩ = some (.int .u64 T))
      (first | exact HN.out.cs | exact HMD.out.cs | go_keep)
      (first
        | (go_at_call 118; (with_reducible refine (ahead_walk _ _ _).mono ?_); rintro r w3 ⟨rfl, hb⟩; rw [← HA.out]; have HN := Lib.hid (HMD.out.step hb); clear hb; have c4 := HN.out.c4; have f4 := HN.out.f 4; have HE42 := Lib.hid (HN.out.p4 (fnv 147 M)))
        | fail)
    clear q0 q1 q2 q3 q5 q6 HM HMD
    cases B
    · go_wp2
      go_returns
      exact ⟨rfl, HE42.out⟩
    · go_wp2_with (first
        | (go_at_call 119; (with_reducible refine (finish_any 3 0 _ HN.out).mono ?_); rintro r w4 ⟨rfl, hz⟩)
        | fail)
      go_returns
      exact ⟨rfl, hz⟩
  by_cases hc : A ≤ 0
  · simpa [hc] using HR true (by simpa using hc)
  · simpa [hc] using HR false (by simpa using hc)
end Go.Proofs.YtnfbjebhpljikaaGreat.Dg

namespace Go.Proofs.YtnfbjebhpljikaaGreat.Dg
open Go.RowKit
set_option linter.unusedVariables false
set_option maxRecDepth 100000
set_option linter.unusedSimpArgs false
variable {w0 : World} {M S D : Nat} {e : En} {nx : Value} {t b v r x : Int} {L : List Int} {c : Int}

set_option maxHeartbeats 1000000 in
/-- The only one is had by whoever turns Top. -/
theorem contend_any (w : World) (h : Mst w0 w M S D e nx t b v r x L c) (h0 : 0 ≤ c) (h1 : c ≤ 1000000000) :
    Calls Tryz.prog 141 #[ptr M, ptr S] w fun a w' => a = .returned (.tuple #[]) ∧
      Mst w0 w' M S D e (if swB L e.top t = true then fnv 144 M else fnv 129 M) t b v (if swB L e.top t = true then r else r) (if swB L e.top t = true then x else x) (swv L e.top t (IntKind.u64.wrap (t + 1))) (c + 1) := by
  have hmf : ∀ (fn : Fn) (first cap : Array Value) (w : World), (Instr.makeFunc fn first cap).run Tryz.prog w = .ok (.func fn first cap) w := fun _ _ _ _ => rfl
  obtain ⟨q0, q1, q2, q3, q5, q6⟩ := h.cs
  have q7 := h.c7
  obtain ⟨y, hy⟩ : ∃ y, y = IntKind.u64.wrap (t + 1) := ⟨_, rfl⟩
  rw [← hy]
  have hy' := hy.symm; clear hy
  have HD := Lib.hid h.drew; clear h
  obtain ⟨B, hB⟩ : ∃ B, B = swB L e.top t := ⟨_, rfl⟩
  rw [← hB]
  have HB := Lib.hid hB; clear hB
  cases B
  · simp only [if_true, if_false, Bool.false_eq_true]
    go_enter Tryz.func141, Tryz.ntmps141
    go_wp2
    go_still_tail 15, (by kernel_rfl)
    change wpList _ _ _ _ _ w.drew
    go_wp2_with (first
      | (go_at_call 138; (with_reducible refine (swap_any _ _ _ _ HD.out.st h0 h1).mono ?_); rintro r w1 ⟨rfl, hk⟩; rw [← HB.out]; have HK := Lib.hid (HD.out.left hk); clear hk; have c4 := HK.out.c4; have f4 := HK.out.f 4; have c7 := HK.out.c7; have HE := Lib.hid (HK.out.p4 (fnv 129 M)))
      | fail)
    go_returns
    exact ⟨rfl, HE.out⟩
  · simp only [if_true, if_false, Bool.false_eq_true]
    go_enter Tryz.func141, Tryz.ntmps141
    go_wp2
    go_still_tail 15, (by kernel_rfl)
    change wpList _ _ _ _ _ w.drew
    go_wp2_with (first
      | (go_at_call 138; (with_reducible refine (swap_any _ _ _ _ HD.out.st h0 h1).mono ?_); rintro r w1 ⟨rfl, hk⟩; rw [← HB.out]; have HK := Lib.hid (HD.out.left hk); clear hk; have c4 := HK.out.c4; have f4 := HK.out.f 4; have c7 := HK.out.c7; have HE := Lib.hid (HK.out.p4 (fnv 144 M)))
      | fail)
    go_returns
    exact ⟨rfl, HE.out⟩
set_option maxHeartbeats 1000000 in
/-- The first one is had by whoever turns Top. -/
theorem takeFirst_any (w : World) (h : Mst w0 w M S D e nx t b v r x L c) (h0 : 0 ≤ c) (h1 : c ≤ 1000000000) :
    Calls Tryz.prog 148 #[ptr M, ptr S] w fun a w' => a = .returned (.tuple #[]) ∧
      Mst w0 w' M S D e (if swB L e.top t = true then .nilFunc else .nilFunc) t b v (if swB L e.top t = true then 1 else 4) (if swB L e.top t = true then v else 0) (swv L e.top t (IntKind.u64.wrap (t + 1))) (c + 1) := by
  have hmf : ∀ (fn : Fn) (first cap : Array Value) (w : World), (Instr.makeFunc fn first cap).run Tryz.prog w = .ok (.func fn first cap) w := fun _ _ _ _ => rfl
  obtain ⟨q0, q1, q2, q3, q5, q6⟩ := h.cs
  have q7 := h.c7
  obtain ⟨y, hy⟩ : ∃ y, y = IntKind.u64.wrap (t + 1) := ⟨_, rfl⟩
  rw [← hy]
  have hy' := hy.symm; clear hy
  have HD := Lib.hid h.drew; clear h
  obtain ⟨B, hB⟩ : ∃ B, B = swB L e.top t := ⟨_, rfl⟩
  rw [← hB]
  have HB := Lib.hid hB; clear hB
  cases B
  · simp only [if_true, if_false, Bool.false_eq_true]
    go_enter Tryz.func148, Tryz.ntmps148
    go_wp2
    go_still_tail 15, (by kernel_rfl)
    change wpList _ _ _ _ _ w.drew
    go_wp2_with (first
      | (go_at_call 138; (with_reducible refine (swap_any _ _ _ _ HD.out.st h0 h1).mono ?_); rintro r w1 ⟨rfl, hk⟩; rw [← HB.out]; have HK := Lib.hid (HD.out.left hk); clear hk; have c4 := HK.out.c4; have f4 := HK.out.f 4; have c7 := HK.out.c7)
      | (go_at_call 119; (with_reducible refine (finish_any 4 0 _ HK.out).mono ?_); rintro r w4 ⟨rfl, hz⟩)
      | fail)
    go_returns
    exact ⟨rfl, hz⟩
  · simp only [if_true, if_false, Bool.false_eq_true]
    go_enter Tryz.func148, Tryz.ntmps148
    go_wp2
    go_still_tail 15, (by kernel_rfl)
    change wpList _ _ _ _ _ w.drew
    go_wp2_with (first
      | (go_at_call 138; (with_reducible refine (swap_any _ _ _ _ HD.out.st h0 h1).mono ?_); rintro r w1 ⟨rfl, hk⟩; rw [← HB.out]; have HK := Lib.hid (HD.out.left hk); clear hk; have c4 := HK.out.c4; have f4 := HK.out.f 4; have c7 := HK.out.c7)
      | (go_at_call 119; (with_reducible refine (finish_any 1 v _ HK.out).mono ?_); rintro r w4 ⟨rfl, hz⟩)
      | fail)
    go_returns
    exact ⟨rfl, hz⟩
end Go.Proofs.YtnfbjebhpljikaaGreat.Dg

namespace Go.Proofs.YtnfbjebhpljikaaGreat.Dg
open Go.RowKit
set_option linter.unusedVariables false
set_option maxRecDepth 100000
variable {w0 : World} {M S D : Nat} {e : En} {nx : Value} {t b v r x : Int} {L : List Int} {c : Int}

theorem Mst.cs7 {w : World} (h : Mst w0 w M S D e nx t b v r x L c) : w.cell? ⟨M, 0, none⟩ = some (.int .i64 e.top) ∧ w.cell? ⟨M, 1, none⟩ = some (.int .i64 e.bot) ∧ w.cell? ⟨M, 2, none⟩ = some (.int .i64 e.ent) ∧ w.cell? ⟨M, 3, none⟩ = some (.int .i64 (roomOf e)) ∧ w.cell? ⟨M, 5, none⟩ = some (.int .u64 t) ∧ w.cell? ⟨M, 6, none⟩ = some (.int .u64 b) ∧ w.cell? ⟨M, 7, none⟩ = some (.int .u64 v) :=
  ⟨h.c0, h.c1, h.c2, h.c3, h.c5, h.c6, h.c7⟩
set_option maxHeartbeats 1000000 in
/-- An entry is put. -/
theorem putEntry_any (w : World) (h : Mst w0 w M S D e nx t b v r x L c) (h0 : 0 ≤ c) (h1 : c ≤ 1000000000) (ok : EnOk e) (hb0 : 0 ≤ b) :
    Calls Tryz.prog 120 #[ptr M, ptr S] w fun a w' => a = .returned (.tuple #[]) ∧ Mst w0 w' M S D e (fnv 137 M) t b v r x (ptv L (entOf e b) v) (c + 1) := by
  have hmf : ∀ (fn : Fn) (first cap : Array Value) (w : World), (Instr.makeFunc fn first cap).run Tryz.prog w = .ok (.func fn first cap) w := fun _ _ _ _ => rfl
  obtain ⟨q0, q1, q2, q3, q5, q6, q7⟩ := h.cs7
  have HMD := Lib.hid h.drew; clear h
  go_enter Tryz.func120, Tryz.ntmps120
  go_wp2
  go_region_held3 (fun w' => w'.cell? ⟨M, 0, none⟩ = some (.int .i64 e.top) ∧ w'.cell? ⟨M, 1, none⟩ = some (.int .i64 e.bot) ∧ w'.cell? ⟨M, 2, none⟩ = some (.int .i64 e.ent) ∧ w'.cell? ⟨M, 3, none⟩ = some (.int .i64 (roomOf e)) ∧ w'.cell? ⟨M, 5, none⟩ = some (.int .u64 t) ∧ w'.cell? ⟨M, 6, none⟩ = some (.int .u64 b) ∧ w'.cell? ⟨M, 7, none⟩ = some (.int .u64 v))
    (first | exact HQ.out.cs7 | exact HN.out.cs7 | exact HMD.out.cs7 | go_keep)
    (first
      | (go_at_call 136; (with_reducible refine (place_any b ok hb0 _).mono ?_); rintro r w3 ⟨rfl, hb⟩; have HN := Lib.hid (HMD.out.step hb); clear hb)
      | (go_at_call 96; (with_reducible refine (put_any _ _ _ HN.out.st h0 h1).mono ?_); rintro r w4 ⟨rfl, hk⟩; have HQ := Lib.hid (HN.out.left hk); clear hk; have c4 := HQ.out.c4; have f4 := HQ.out.f 4; have HE := Lib.hid (HQ.out.p4 (fnv 137 M)))
      | fail)
  go_wp2
  go_returns
  exact ⟨rfl, HE.out⟩
end Go.Proofs.YtnfbjebhpljikaaGreat.Dg
