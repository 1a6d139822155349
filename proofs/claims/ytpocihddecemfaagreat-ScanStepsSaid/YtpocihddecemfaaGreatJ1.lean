/-  -/
import Derived.Test.YtpocihddecemfaaGreatRows
import Derived.WalkKit
import Derived.WalkSpells
import Derived.WalkLawsBesides
import Derived.WalkSmall
import Derived.BigQuiet
import Derived.BigRegion
import Derived.StillTailTactics
import Derived.Deep.QuietTactic
import Derived.Deep.RegionWith
import Derived.Deep.RegionHeld3
import Derived.Deep.DeepCutAuto
import Derived.Deep.AppendLies
import Derived.Deep.Onto
import Derived.Lib.Hide
import Derived.Lib.SmallJoins
import Derived.Handy
import Derived.IntWalk
import Derived.Below
import Derived.Laws.ResultCell
import Derived.Laws.StructEq
import Derived.Laws.CopyOwn
import Derived.LoopN
import Derived.OpenShut
import Derived.OwnWalk
import Derived.Laws.AppendOwn
import Derived.Laws.AppendOwnNone
namespace Go.Proofs.YtpocihddecemfaaGreat
open Go.RowKit
set_option linter.unusedVariables false
theorem info34 : (Tryz.prog.info? 25).map (fun i => (i.zero, i.size, i.bytes)) = some (some (.int .u64 0), 1, 8) := by kernel_rfl
theorem ret_int {k : IntKind} {a b : Int} (h : a = b) : Ending.returned (.int k a) = .returned (.int k b) := by rw [h]
theorem below_step {B : Nat} {a w w' : World} (h : Below B a w) (hB : B ≤ w.heap.size) (k : Below w.heap.size w w') : Below B a w' := h.trans (k.mono hB)
theorem below_drewN {B : Nat} {a w : World} (h : Below B a w) : ∀ n, Below B a (w.drewN n)
  | 0 => h
  | n + 1 => (below_drewN h n).drew
theorem below_alloc0 {w w' : World} (h : Below w.heap.size w w') (o : Obj) : Below w.heap.size w (w'.alloc o) := h.alloc h.size o
theorem below_then {w w1 w2 : World} (h : Below w.heap.size w w1) (k : Below w1.heap.size w1 w2) : Below w.heap.size w w2 := below_step h h.size k
theorem add_off (b off j : Nat) : (⟨b, off, none⟩ : Addr).add j = ⟨b, off + j, none⟩ := by
  unfold Addr.add
  split
  · rename_i e; subst e; rfl
  · rfl
theorem map_get (k : IntKind) (l : List Int) (u : Nat) (h : u < l.length) : (l.map (Value.int k))[u]? = some (.int k (l.getD u 0)) := by
  simp [List.getElem?_map, List.getElem?_eq_getElem h, List.getD]
theorem ints_ext (xs ys : List Int) (h : xs.length = ys.length) (h2 : ∀ j, j < xs.length → xs.getD j 0 = ys.getD j 0) : xs = ys := by
  apply List.ext_getElem h
  intro i h3 h4
  have := h2 i h3
  simpa [List.getD, List.getElem?_eq_getElem h3, List.getElem?_eq_getElem h4] using this
structure Upd (S D : Nat) (w w' : World) : Prop where
  os : w'.os = w.os
  tape : w'.tape = w.tape
  output : w'.output = w.output
  size : w.heap.size ≤ w'.heap.size
  block : ∀ k, k < w.heap.size → k ≠ S → k ≠ D → w'.heap[k]? = w.heap[k]?
theorem Upd.refl (S D : Nat) (w : World) : Upd S D w w := ⟨rfl, rfl, rfl, Nat.le_refl _, fun _ _ _ _ => rfl⟩
theorem Upd.trans {S D : Nat} {a b c : World} (h : Upd S D a b) (k : Upd S D b c) : Upd S D a c :=
  ⟨k.os.trans h.os, k.tape.trans h.tape, k.output.trans h.output, Nat.le_trans h.size k.size, fun i hi h1 h2 => (k.block i (Nat.lt_of_lt_of_le hi h.size) h1 h2).trans (h.block i hi h1 h2)⟩
theorem Upd.setS {S D : Nat} {a w : World} (h : Upd S D a w) (i : Nat) (v : Value) : Upd S D a (w.setCell ⟨S, i, none⟩ v) :=
  h.trans ⟨rfl, rfl, rfl, by simp, fun k hk h1 _ => heap_setCell_other w ⟨S, i, none⟩ k v h1⟩
theorem Upd.setD {S D : Nat} {a w : World} (h : Upd S D a w) (i : Nat) (v : Value) : Upd S D a (w.setCell ⟨D, i, none⟩ v) :=
  h.trans ⟨rfl, rfl, rfl, by simp, fun k hk _ h2 => heap_setCell_other w ⟨D, i, none⟩ k v h2⟩
theorem below_upd {B S D : Nat} {w0 w w' : World} (h : Below B w0 w) (hB : B ≤ w0.heap.size) (u : Upd S D w w') (hS : B ≤ S) (hD : B ≤ D) : Below B w0 w' :=
  h.trans ⟨u.os, u.tape, u.output, u.size, fun k hk => u.block k (Nat.lt_of_lt_of_le hk (Nat.le_trans hB h.size)) (by omega) (by omega)⟩
def Reads (k : IntKind) (w : World) (A : Option Addr) (zs : List Int) : Prop :=
  0 < zs.length → ∃ b off, A = some ⟨b, off, none⟩ ∧ b < w.heap.size ∧ ∀ j, j < zs.length → w.cell? ⟨b, off + j, none⟩ = some (.int k (zs.getD j 0))
theorem Reads.below {k : IntKind} {w w' : World} {A : Option Addr} {zs : List Int} (h : Reads k w A zs) {B : Nat} (hb : Below B w w') (hB : w.heap.size ≤ B) : Reads k w' A zs := fun h0 => by
  obtain ⟨b, off, e, hlt, hc⟩ := h h0
  exact ⟨b, off, e, Nat.lt_of_lt_of_le hlt hb.size, fun j hj => (hb.cell (p := ⟨b, off + j, none⟩) (Nat.lt_of_lt_of_le hlt hB)).trans (hc j hj)⟩
def Row (w : World) (D : Nat) (L : List Int) : Prop := w.heap[D]? = some (.cells (L.map (Value.int .u64)).toArray 25 (0, 0))
theorem Row.lt {w : World} {D : Nat} {L : List Int} (h : Row w D L) : D < w.heap.size := (Array.getElem?_eq_some_iff.1 h).1
theorem Row.cell {w : World} {D : Nat} {L : List Int} (h : Row w D L) (j : Nat) (hj : j < L.length) : w.cell? ⟨D, j, none⟩ = some (.int .u64 (L.getD j 0)) := by
  have e := map_get .u64 L j hj
  have h' : w.heap[D]? = _ := h
  simp only [World.cell?, h']
  simpa using e
theorem Row.frozen {w : World} {D : Nat} {L : List Int} (h : Row w D L) (j : Nat) : w.frozen? ⟨D, j, none⟩ = false := frozen_of_row w D j _ _ h
theorem Row.reads {w : World} {D : Nat} {L : List Int} (h : Row w D L) : Reads .u64 w (some ⟨D, 0, none⟩) L := fun _ =>
  ⟨D, 0, rfl, h.lt, fun j hj => by rw [Nat.zero_add]; exact h.cell j hj⟩
theorem Row.below {w w' : World} {D : Nat} {L : List Int} (h : Row w D L) (hb : Below w.heap.size w w') : Row w' D L := (hb.block D h.lt).trans h
theorem Row.set {w : World} {D : Nat} {L : List Int} (h : Row w D L) (i : Nat) (x : Int) : Row (w.setCell ⟨D, i, none⟩ (.int .u64 x)) D (L.set i x) := by
  have := heap_setCell_same w D i _ 25 (.int .u64 x) h
  unfold Row
  rw [this, List.map_set]
  simp
theorem Row.upd {S D E : Nat} {w w' : World} {L : List Int} (h : Row w E L) (u : Upd S D w w') (h1 : E ≠ S) (h2 : E ≠ D) : Row w' E L := (u.block E h.lt h1 h2).trans h
structure St (w : World) (S D : Nat) (L : List Int) (c : Int) : Prop where
  ne : S ≠ D
  top : w.heap[S]? = some (.cells #[.slice (some ⟨D, 0, none⟩) L.length L.length, .int .i64 c] 101 (0, 0))
  row : Row w D L
theorem St.ltS {w : World} {S D : Nat} {L : List Int} {c : Int} (h : St w S D L c) : S < w.heap.size := (Array.getElem?_eq_some_iff.1 h.top).1
theorem St.head {w : World} {S D : Nat} {L : List Int} {c : Int} (h : St w S D L c) : w.cell? ⟨S, 0, none⟩ = some (.slice (some ⟨D, 0, none⟩) L.length L.length) := by
  simp [World.cell?, h.top]
theorem St.many {w : World} {S D : Nat} {L : List Int} {c : Int} (h : St w S D L c) : w.cell? ⟨S, 1, none⟩ = some (.int .i64 c) := by
  simp [World.cell?, h.top]
theorem St.fro {w : World} {S D : Nat} {L : List Int} {c : Int} (h : St w S D L c) (j : Nat) : w.frozen? ⟨S, j, none⟩ = false := frozen_of_row w S j _ _ h.top
theorem St.count {w : World} {S D : Nat} {L : List Int} {c : Int} (h : St w S D L c) (d : Int) : St (w.setCell ⟨S, 1, none⟩ (.int .i64 d)) S D L d := by
  refine ⟨h.ne, ?_, (heap_setCell_other w _ _ _ (Ne.symm h.ne)).trans h.row⟩
  rw [heap_setCell_same w S 1 _ 101 _ h.top]
  rfl
theorem St.set {w : World} {S D : Nat} {L : List Int} {c : Int} (h : St w S D L c) (i : Nat) (x : Int) : St (w.setCell ⟨D, i, none⟩ (.int .u64 x)) S D (L.set i x) c := by
  refine ⟨h.ne, ?_, h.row.set i x⟩
  rw [heap_setCell_other w _ _ _ h.ne, h.top, List.length_set]
theorem St.upd {S' D' : Nat} {w w' : World} {S D : Nat} {L : List Int} {c : Int} (h : St w S D L c) (u : Upd S' D' w w') (h1 : S ≠ S') (h2 : S ≠ D') (h3 : D ≠ S') (h4 : D ≠ D') : St w' S D L c :=
  ⟨h.ne, (u.block S h.ltS h1 h2).trans h.top, h.row.upd u h3 h4⟩
theorem St.below {w w' : World} {S D : Nat} {L : List Int} {c : Int} (h : St w S D L c) (hb : Below w.heap.size w w') : St w' S D L c :=
  ⟨h.ne, (hb.block S h.ltS).trans h.top, h.row.below hb⟩
end Go.Proofs.YtpocihddecemfaaGreat

namespace Go.Proofs.YtpocihddecemfaaGreat
open Go.RowKit
set_option linter.unusedVariables false
abbrev put5 (w : World) (B : Nat) (u0 u1 u2 u3 u4 : Value) : World := (((((w.setCell ⟨B, 0, none⟩ u0).setCell ⟨B, 1, none⟩ u1).setCell ⟨B, 2, none⟩ u2).setCell ⟨B, 3, none⟩ u3).setCell ⟨B, 4, none⟩ u4)
theorem put5_same (w : World) (B : Nat) (t : TypeId) (x0 x1 x2 x3 x4 : Value) (h : w.heap[B]? = some (.cells #[x0, x1, x2, x3, x4] t (0, 0))) (u0 u1 u2 u3 u4 : Value) : (put5 w B u0 u1 u2 u3 u4).heap[B]? = some (.cells #[u0, u1, u2, u3, u4] t (0, 0)) := by
  have h0 : (w.setCell ⟨B, 0, none⟩ u0).heap[B]? = some (.cells #[u0, x1, x2, x3, x4] t (0, 0)) := (heap_setCell_same _ B 0 _ t u0 h).trans (congrArg (fun c => some (Obj.cells c t (0, 0))) (show (#[x0, x1, x2, x3, x4] : Array Value).setIfInBounds 0 u0 = #[u0, x1, x2, x3, x4] from rfl))
  have h1 : ((w.setCell ⟨B, 0, none⟩ u0).setCell ⟨B, 1, none⟩ u1).heap[B]? = some (.cells #[u0, u1, x2, x3, x4] t (0, 0)) := (heap_setCell_same _ B 1 _ t u1 h0).trans (congrArg (fun c => some (Obj.cells c t (0, 0))) (show (#[u0, x1, x2, x3, x4] : Array Value).setIfInBounds 1 u1 = #[u0, u1, x2, x3, x4] from rfl))
  have h2 : (((w.setCell ⟨B, 0, none⟩ u0).setCell ⟨B, 1, none⟩ u1).setCell ⟨B, 2, none⟩ u2).heap[B]? = some (.cells #[u0, u1, u2, x3, x4] t (0, 0)) := (heap_setCell_same _ B 2 _ t u2 h1).trans (congrArg (fun c => some (Obj.cells c t (0, 0))) (show (#[u0, u1, x2, x3, x4] : Array Value).setIfInBounds 2 u2 = #[u0, u1, u2, x3, x4] from rfl))
  have h3 : ((((w.setCell ⟨B, 0, none⟩ u0).setCell ⟨B, 1, none⟩ u1).setCell ⟨B, 2, none⟩ u2).setCell ⟨B, 3, none⟩ u3).heap[B]? = some (.cells #[u0, u1, u2, u3, x4] t (0, 0)) := (heap_setCell_same _ B 3 _ t u3 h2).trans (congrArg (fun c => some (Obj.cells c t (0, 0))) (show (#[u0, u1, u2, x3, x4] : Array Value).setIfInBounds 3 u3 = #[u0, u1, u2, u3, x4] from rfl))
  have h4 : (((((w.setCell ⟨B, 0, none⟩ u0).setCell ⟨B, 1, none⟩ u1).setCell ⟨B, 2, none⟩ u2).setCell ⟨B, 3, none⟩ u3).setCell ⟨B, 4, none⟩ u4).heap[B]? = some (.cells #[u0, u1, u2, u3, u4] t (0, 0)) := (heap_setCell_same _ B 4 _ t u4 h3).trans (congrArg (fun c => some (Obj.cells c t (0, 0))) (show (#[u0, u1, u2, u3, x4] : Array Value).setIfInBounds 4 u4 = #[u0, u1, u2, u3, u4] from rfl))
  exact h4
theorem put5_upd (w : World) (B : Nat) (u0 u1 u2 u3 u4 : Value) : Upd B B w (put5 w B u0 u1 u2 u3 u4) := by
  have u := fun (w : World) (i : Nat) (v : Value) => (show Upd B B w (w.setCell ⟨B, i, none⟩ v) from ⟨rfl, rfl, rfl, by simp, fun k hk h1 _ => heap_setCell_other w ⟨B, i, none⟩ k v h1⟩)
  exact (((((u _ _ _).trans (u _ _ _)).trans (u _ _ _)).trans (u _ _ _)).trans (u _ _ _))
end Go.Proofs.YtpocihddecemfaaGreat

namespace Go.Proofs.YtpocihddecemfaaGreat.Dg
open Go.RowKit
set_option linter.unusedVariables false
set_option maxRecDepth 100000
set_option maxHeartbeats 400000 in
theorem part_any (b x : Int) (hb : 1 ≤ b) (hb2 : b ≤ 18446744073709551615) (hx : 0 ≤ x) (hx2 : x ≤ 18446744073709551615) (w : World) :
    Calls Tryz.prog 79 #[.int .u64 b, .int .u64 x] w fun e w' => e = .returned (.agg #[.int .u64 (x / b), .int .u64 (x % b)]) ∧ Below w.heap.size w w' := by
  go_enter Tryz.func79, Tryz.ntmps79
  go_wp2
  go_region
  all_goals go_wp2
  all_goals (refine bodyPost_ret (v := .agg #[.int .u64 (x / b), .int .u64 (x % b)]) (by simp [results, Tryz.results79, go_sem]) rfl ⟨rfl, ?_⟩)
  all_goals exact ((Below.refl _ _).alloc (Nat.le_refl _) _).drew
def aheadOf (x y : Int) : Int := if (x - y) % 18446744073709551616 < 9223372036854775808 then (x - y) % 18446744073709551616 else (x - y) % 18446744073709551616 - 18446744073709551616
theorem bcell {W w1 : World} (hb : Below W.heap.size W w1) : (∀ b o, b < W.heap.size → w1.cell? ⟨b, o, none⟩ = W.cell? ⟨b, o, none⟩) ∧ (∀ b o, b < W.heap.size → w1.frozen? ⟨b, o, none⟩ = W.frozen? ⟨b, o, none⟩) :=
  ⟨fun b o h => hb.cell (p := ⟨b, o, none⟩) h, fun b o h => hb.frozen (p := ⟨b, o, none⟩) h⟩
@[go_sem] theorem eq72 (a b c d : Int) (w : World) : (Op.equalIn 10000 131 (.agg #[.int .u64 a, .int .u64 b]) (.agg #[.int .u64 c, .int .u64 d])).run Tryz.prog w = .ok (a == c && b == d) w := by
  have u3 := Tryz.underlying25
  have a3 := Tryz.isAgg25
  have z3 := Tryz.sizeOf25
  rw [show (10000 : Nat) = 9999 + 1 from rfl, Op.equalIn]
  simp only [Sem.run_bind, run_underlying Tryz.underlying131, Result.andThen_ok]
  simp only [Std.Legacy.Range.forIn_eq_forIn_range', Std.Legacy.Range.size, Nat.sub_zero, Nat.add_sub_cancel, Nat.div_one, List.range'_succ, List.range'_zero, List.forIn_cons, List.forIn_nil]
  go_simp
  by_cases h1 : a = c <;> by_cases h2 : b = d <;> simp [h1, h2]
set_option maxHeartbeats 400000 in
theorem holds_any (d x y : Int) (hd : 0 ≤ d) (hd2 : d ≤ 18446744073709551615) (w : World) :
    Calls Tryz.prog 162 #[.func (.func 79) #[.int .u64 4294967296] #[], .int .u64 d, .agg #[.int .u64 x, .int .u64 y]] w fun e w' => e = .returned (.bool (d / 4294967296 == x && d % 4294967296 == y)) ∧ Below w.heap.size w w' := by
  go_enter Tryz.func162, Tryz.ntmps162
  go_wp2
  go_region_with (first | (go_at_call 79; refine (part_any 4294967296 d (by omega) (by omega) hd hd2 _).mono ?_; rintro e w1 ⟨rfl, hb⟩; obtain ⟨hc, hf⟩ := bcell hb))
  all_goals go_wp2
  all_goals go_ret
  all_goals exact ⟨rfl, below_step ((Below.refl _ _).alloc (Nat.le_refl _) _).drew (by simp) hb⟩
theorem holds_is (d x y : Int) (t : Bool) (hd : 0 ≤ d) (hd2 : d ≤ 18446744073709551615) (ht : (d / 4294967296 == x && d % 4294967296 == y) = t) (w : World) :
    Calls Tryz.prog 162 #[.func (.func 79) #[.int .u64 4294967296] #[], .int .u64 d, .agg #[.int .u64 x, .int .u64 y]] w fun e w' => e = .returned (.bool t) ∧ Below w.heap.size w w' :=
  (holds_any d x y hd hd2 w).mono fun _ _ ⟨he, hb⟩ => ⟨by rw [he, ht], hb⟩
set_option maxHeartbeats 400000 in
theorem ahead_walk (a b : Int) (w : World) :
    Calls Tryz.prog 157 #[.int .u64 a, .int .u64 b] w fun e w' => e = .returned (.int .i64 (aheadOf a b)) ∧ Below w.heap.size w w' := by
  have ew : IntKind.u64.wrap (a - b) = (a - b) % 18446744073709551616 := IntKind.wrap_u64 _
  have ew2 : IntKind.u64.wrap (b - a) = (b - a) % 18446744073709551616 := IntKind.wrap_u64 _
  have d0 : 0 ≤ IntKind.u64.wrap (a - b) := by omega
  have d1 : IntKind.u64.wrap (a - b) ≤ 18446744073709551615 := by omega
  have hmf : ∀ (fn : Fn) (first cap : Array Value) (w : World), (Instr.makeFunc fn first cap).run Tryz.prog w = .ok (.func fn first cap) w := fun _ _ _ _ => rfl
  by_cases h : IntKind.u64.wrap (a - b) = 9223372036854775808
  · have hz : aheadOf a b = -9223372036854775808 := by unfold aheadOf; split <;> omega
    have ht : (IntKind.u64.wrap (a - b) / 4294967296 == 2147483648 && IntKind.u64.wrap (a - b) % 4294967296 == 0) = true := by rw [h]; decide
    clear h ew ew2
    have HT := Lib.hid ht; clear ht
    have HZ := Lib.hid hz; clear hz
    go_enter Tryz.func157, Tryz.ntmps157
    go_wp2_with (go_at_call 162; refine (holds_is _ _ _ true d0 d1 HT.out _).mono ?_; rintro e w1 ⟨rfl, hb⟩)
    go_ret
    exact ⟨ret_int HZ.out.symm, hb⟩
  · have ht : (IntKind.u64.wrap (a - b) / 4294967296 == 2147483648 && IntKind.u64.wrap (a - b) % 4294967296 == 0) = false := by
      rw [Bool.eq_false_iff]; intro h2; simp at h2; omega
    have HT := Lib.hid ht; clear ht
    by_cases hl : IntKind.u64.wrap (a - b) < 9223372036854775808
    · have hz : aheadOf a b = IntKind.u64.wrap (a - b) := by unfold aheadOf; split <;> omega
      have HZ := Lib.hid hz; clear hz ew ew2 h
      go_enter Tryz.func157, Tryz.ntmps157
      go_wp2_with (go_at_call 162; refine (holds_is _ _ _ false d0 d1 HT.out _).mono ?_; rintro e w1 ⟨rfl, hb⟩)
      go_ret
      exact ⟨ret_int HZ.out.symm, hb⟩
    · have hz : aheadOf a b = - IntKind.u64.wrap (b - a) := by unfold aheadOf; split <;> omega
      have e0 : 0 ≤ IntKind.u64.wrap (b - a) := by omega
      have e1 : IntKind.u64.wrap (b - a) ≤ 9223372036854775807 := by omega
      have HZ := Lib.hid hz; clear hz ew ew2 h
      go_enter Tryz.func157, Tryz.ntmps157
      go_wp2_with (go_at_call 162; refine (holds_is _ _ _ false d0 d1 HT.out _).mono ?_; rintro e w1 ⟨rfl, hb⟩)
      go_ret
      exact ⟨ret_int HZ.out.symm, hb⟩
end Go.Proofs.YtpocihddecemfaaGreat.Dg
