/-  -/
import Derived.Test.YthoiaffeenhfgaaGreatRows
import Derived.WalkKit
import Derived.WalkSpells
import Derived.WalkLawsBesides
import Derived.WalkSmall
import Derived.BigQuiet
import Derived.BigRegion
import Derived.StillTailTactics
import Derived.Deep.QuietTactic
import Derived.Deep.RegionWith
import Derived.Deep.RegionHeld3
import Derived.Deep.DeepCutAuto
import Derived.Deep.AppendLies
import Derived.Deep.Onto
import Derived.Lib.Hide
import Derived.Lib.SmallJoins
import Derived.Handy
import Derived.IntWalk
import Derived.Below
import Derived.Laws.ResultCell
import Derived.Laws.StructEq
import Derived.Laws.CopyOwn
import Derived.LoopN
import Derived.OpenShut
import Derived.OwnWalk
import Derived.Laws.AppendOwn
import Derived.Laws.AppendOwnNone
namespace Go.Proofs.YthoiaffeenhfgaaGreat
open Go.RowKit
set_option linter.unusedVariables false
theorem info34 : (Tryz.prog.info? 39).map (fun i => (i.zero, i.size, i.bytes)) = some (some (.int .u64 0), 1, 8) := by kernel_rfl
theorem ret_int {k : IntKind} {a b : Int} (h : a = b) : Ending.returned (.int k a) = .returned (.int k b) := by rw [h]
theorem below_step {B : Nat} {a w w' : World} (h : Below B a w) (hB : B ≤ w.heap.size) (k : Below w.heap.size w w') : Below B a w' := h.trans (k.mono hB)
theorem below_drewN {B : Nat} {a w : World} (h : Below B a w) : ∀ n, Below B a (w.drewN n)
  | 0 => h
  | n + 1 => (below_drewN h n).drew
theorem below_alloc0 {w w' : World} (h : Below w.heap.size w w') (o : Obj) : Below w.heap.size w (w'.alloc o) := h.alloc h.size o
theorem below_then {w w1 w2 : World} (h : Below w.heap.size w w1) (k : Below w1.heap.size w1 w2) : Below w.heap.size w w2 := below_step h h.size k
theorem add_off (b off j : Nat) : (⟨b, off, none⟩ : Addr).add j = ⟨b, off + j, none⟩ := by
  unfold Addr.add
  split
  · rename_i e; subst e; rfl
  · rfl
theorem map_get (k : IntKind) (l : List Int) (u : Nat) (h : u < l.length) : (l.map (Value.int k))[u]? = some (.int k (l.getD u 0)) := by
  simp [List.getElem?_map, List.getElem?_eq_getElem h, List.getD]
theorem ints_ext (xs ys : List Int) (h : xs.length = ys.length) (h2 : ∀ j, j < xs.length → xs.getD j 0 = ys.getD j 0) : xs = ys := by
  apply List.ext_getElem h
  intro i h3 h4
  have := h2 i h3
  simpa [List.getD, List.getElem?_eq_getElem h3, List.getElem?_eq_getElem h4] using this
structure Upd (S D : Nat) (w w' : World) : Prop where
  os : w'.os = w.os
  tape : w'.tape = w.tape
  output : w'.output = w.output
  size : w.heap.size ≤ w'.heap.size
  block : ∀ k, k < w.heap.size → k ≠ S → k ≠ D → w'.heap[k]? = w.heap[k]?
theorem Upd.refl (S D : Nat) (w : World) : Upd S D w w := ⟨rfl, rfl, rfl, Nat.le_refl _, fun _ _ _ _ => rfl⟩
theorem Upd.trans {S D : Nat} {a b c : World} (h : Upd S D a b) (k : Upd S D b c) : Upd S D a c :=
  ⟨k.os.trans h.os, k.tape.trans h.tape, k.output.trans h.output, Nat.le_trans h.size k.size, fun i hi h1 h2 => (k.block i (Nat.lt_of_lt_of_le hi h.size) h1 h2).trans (h.block i hi h1 h2)⟩
theorem Upd.setS {S D : Nat} {a w : World} (h : Upd S D a w) (i : Nat) (v : Value) : Upd S D a (w.setCell ⟨S, i, none⟩ v) :=
  h.trans ⟨rfl, rfl, rfl, by simp, fun k hk h1 _ => heap_setCell_other w ⟨S, i, none⟩ k v h1⟩
theorem Upd.setD {S D : Nat} {a w : World} (h : Upd S D a w) (i : Nat) (v : Value) : Upd S D a (w.setCell ⟨D, i, none⟩ v) :=
  h.trans ⟨rfl, rfl, rfl, by simp, fun k hk _ h2 => heap_setCell_other w ⟨D, i, none⟩ k v h2⟩
def Reads (k : IntKind) (w : World) (A : Option Addr) (zs : List Int) : Prop :=
  0 < zs.length → ∃ b off, A = some ⟨b, off, none⟩ ∧ b < w.heap.size ∧ ∀ j, j < zs.length → w.cell? ⟨b, off + j, none⟩ = some (.int k (zs.getD j 0))
theorem Reads.below {k : IntKind} {w w' : World} {A : Option Addr} {zs : List Int} (h : Reads k w A zs) {B : Nat} (hb : Below B w w') (hB : w.heap.size ≤ B) : Reads k w' A zs := fun h0 => by
  obtain ⟨b, off, e, hlt, hc⟩ := h h0
  exact ⟨b, off, e, Nat.lt_of_lt_of_le hlt hb.size, fun j hj => (hb.cell (p := ⟨b, off + j, none⟩) (Nat.lt_of_lt_of_le hlt hB)).trans (hc j hj)⟩
def Row (w : World) (D : Nat) (L : List Int) : Prop := w.heap[D]? = some (.cells (L.map (Value.int .u64)).toArray 39 (0, 0))
theorem Row.lt {w : World} {D : Nat} {L : List Int} (h : Row w D L) : D < w.heap.size := (Array.getElem?_eq_some_iff.1 h).1
theorem Row.cell {w : World} {D : Nat} {L : List Int} (h : Row w D L) (j : Nat) (hj : j < L.length) : w.cell? ⟨D, j, none⟩ = some (.int .u64 (L.getD j 0)) := by
  have e := map_get .u64 L j hj
  have h' : w.heap[D]? = _ := h
  simp only [World.cell?, h']
  simpa using e
theorem Row.frozen {w : World} {D : Nat} {L : List Int} (h : Row w D L) (j : Nat) : w.frozen? ⟨D, j, none⟩ = false := frozen_of_row w D j _ _ h
theorem Row.reads {w : World} {D : Nat} {L : List Int} (h : Row w D L) : Reads .u64 w (some ⟨D, 0, none⟩) L := fun _ =>
  ⟨D, 0, rfl, h.lt, fun j hj => by rw [Nat.zero_add]; exact h.cell j hj⟩
theorem Row.below {w w' : World} {D : Nat} {L : List Int} (h : Row w D L) (hb : Below w.heap.size w w') : Row w' D L := (hb.block D h.lt).trans h
theorem Row.set {w : World} {D : Nat} {L : List Int} (h : Row w D L) (i : Nat) (x : Int) : Row (w.setCell ⟨D, i, none⟩ (.int .u64 x)) D (L.set i x) := by
  have := heap_setCell_same w D i _ 39 (.int .u64 x) h
  unfold Row
  rw [this, List.map_set]
  simp
theorem Row.upd {S D E : Nat} {w w' : World} {L : List Int} (h : Row w E L) (u : Upd S D w w') (h1 : E ≠ S) (h2 : E ≠ D) : Row w' E L := (u.block E h.lt h1 h2).trans h
structure St (w : World) (S D : Nat) (L : List Int) (c : Int) : Prop where
  ne : S ≠ D
  top : w.heap[S]? = some (.cells #[.slice (some ⟨D, 0, none⟩) L.length L.length, .int .i64 c] 83 (0, 0))
  row : Row w D L
theorem St.ltS {w : World} {S D : Nat} {L : List Int} {c : Int} (h : St w S D L c) : S < w.heap.size := (Array.getElem?_eq_some_iff.1 h.top).1
theorem St.head {w : World} {S D : Nat} {L : List Int} {c : Int} (h : St w S D L c) : w.cell? ⟨S, 0, none⟩ = some (.slice (some ⟨D, 0, none⟩) L.length L.length) := by
  simp [World.cell?, h.top]
theorem St.many {w : World} {S D : Nat} {L : List Int} {c : Int} (h : St w S D L c) : w.cell? ⟨S, 1, none⟩ = some (.int .i64 c) := by
  simp [World.cell?, h.top]
theorem St.fro {w : World} {S D : Nat} {L : List Int} {c : Int} (h : St w S D L c) (j : Nat) : w.frozen? ⟨S, j, none⟩ = false := frozen_of_row w S j _ _ h.top
theorem St.count {w : World} {S D : Nat} {L : List Int} {c : Int} (h : St w S D L c) (d : Int) : St (w.setCell ⟨S, 1, none⟩ (.int .i64 d)) S D L d := by
  refine ⟨h.ne, ?_, (heap_setCell_other w _ _ _ (Ne.symm h.ne)).trans h.row⟩
  rw [heap_setCell_same w S 1 _ 83 _ h.top]
  rfl
theorem St.set {w : World} {S D : Nat} {L : List Int} {c : Int} (h : St w S D L c) (i : Nat) (x : Int) : St (w.setCell ⟨D, i, none⟩ (.int .u64 x)) S D (L.set i x) c := by
  refine ⟨h.ne, ?_, h.row.set i x⟩
  rw [heap_setCell_other w _ _ _ h.ne, h.top, List.length_set]
theorem St.upd {S' D' : Nat} {w w' : World} {S D : Nat} {L : List Int} {c : Int} (h : St w S D L c) (u : Upd S' D' w w') (h1 : S ≠ S') (h2 : S ≠ D') (h3 : D ≠ S') (h4 : D ≠ D') : St w' S D L c :=
  ⟨h.ne, (u.block S h.ltS h1 h2).trans h.top, h.row.upd u h3 h4⟩
theorem St.below {w w' : World} {S D : Nat} {L : List Int} {c : Int} (h : St w S D L c) (hb : Below w.heap.size w w') : St w' S D L c :=
  ⟨h.ne, (hb.block S h.ltS).trans h.top, h.row.below hb⟩
end Go.Proofs.YthoiaffeenhfgaaGreat

namespace Go.Proofs.YthoiaffeenhfgaaGreat
open Go.RowKit
set_option linter.unusedVariables false
abbrev ptr (S : Nat) : Value := .pointer (some ⟨S, 0, none⟩)
def inB (L : List Int) (at' : Int) : Bool := decide (0 ≤ at' ∧ at' < L.length)
theorem in_yes {L : List Int} {at' : Int} (h : inB L at' = true) : 0 ≤ at' ∧ at' < L.length := by simpa [inB] using h
theorem in_no {L : List Int} {at' : Int} (h : inB L at' = false) : ¬ (0 ≤ at' ∧ at' < L.length) := by
  intro h2
  have : inB L at' = true := by simp only [inB]; exact decide_eq_true h2
  rw [h] at this; cases this
def ldv (L : List Int) (at' : Int) : Int := if inB L at' = true then L.getD at'.toNat 0 else 0
def ptv (L : List Int) (at' v : Int) : List Int := if inB L at' = true then L.set at'.toNat v else L
def swB (L : List Int) (at' o : Int) : Bool := inB L at' && decide (L.getD at'.toNat 0 = o)
def swv (L : List Int) (at' o v : Int) : List Int := if swB L at' o = true then L.set at'.toNat v else L
def adv (L : List Int) (at' n : Int) : List Int := ptv L at' (IntKind.u64.wrap (ldv L at' + n))
theorem ptv_len (L : List Int) (at' v : Int) : (ptv L at' v).length = L.length := by unfold ptv; split <;> simp
theorem adv_len (L : List Int) (at' n : Int) : (adv L at' n).length = L.length := ptv_len ..
def Left (S D : Nat) (L : List Int) (c : Int) (w w' : World) : Prop := St w' S D L c ∧ Upd S D w w'
set_option maxHeartbeats 1000000 in
theorem count_any {S D : Nat} {L : List Int} {c : Int} (w : World) (h : St w S D L c) (h0 : 0 ≤ c) (h1 : c ≤ 1000000000) :
    Calls Tryz.prog 87 #[ptr S] w fun e w' => e = .returned (.tuple #[]) ∧ Left S D L (c + 1) w w' := by
  have HL : Hid (Left S D L (c + 1) w (w.setCell ⟨S, 1, none⟩ (.int .i64 (c + 1)))) := Lib.hid ⟨h.count _, (Upd.refl _ _ _).setS _ _⟩
  have hc := h.many
  have hf := h.fro 1
  clear h
  go_enter Tryz.func87, Tryz.ntmps87
  go_wp2
  go_returns
  exact ⟨rfl, HL.out⟩
set_option maxHeartbeats 1000000 in
theorem counted_any {S D : Nat} {L : List Int} {c : Int} (n : Nat) (at' : Int) (w : World) (hn : n = L.length) (h : St w S D L c) (h0 : 0 ≤ c) (h1 : c ≤ 1000000000) :
    Calls Tryz.prog 86 #[.func (.func 87) #[ptr S] #[], .int .i64 (n : Int), .int .i64 at'] w fun e w' => e = .returned (.bool (inB L at')) ∧ Left S D L (c + 1) w w' := by
  obtain ⟨b, hb⟩ : ∃ b, b = inB L at' := ⟨_, rfl⟩
  rw [← hb]
  have H := Lib.hid h; clear h
  cases b
  · have hno := in_no hb.symm
    have HB := Lib.hid hb; clear hb
    by_cases hz : 0 ≤ at'
    · have hlt : decide (at' < (n : Int)) = false := by simp; omega
      clear hn hno
      go_enter Tryz.func86, Tryz.ntmps86
      go_wp2_with (first
        | (go_at_call 87; (with_reducible refine (count_any _ H.out h0 h1).mono ?_); rintro r w1 ⟨rfl, hk⟩)
        | fail)
      go_ret
      exact ⟨rfl, hk⟩
    · have hlt : decide (0 ≤ at') = false := by simp; omega
      clear hn hno
      go_enter Tryz.func86, Tryz.ntmps86
      go_wp2_with (first
        | (go_at_call 87; (with_reducible refine (count_any _ H.out h0 h1).mono ?_); rintro r w1 ⟨rfl, hk⟩)
        | fail)
      go_ret
      exact ⟨rfl, hk⟩
  · have hyes := in_yes hb.symm
    have HB := Lib.hid hb; clear hb
    have hlt : decide (at' < (n : Int)) = true := by simp; omega
    have hz : 0 ≤ at' := hyes.1
    clear hn hyes
    go_enter Tryz.func86, Tryz.ntmps86
    go_wp2_with (first
      | (go_at_call 87; (with_reducible refine (count_any _ H.out h0 h1).mono ?_); rintro r w1 ⟨rfl, hk⟩)
      | fail)
    go_ret
    exact ⟨rfl, hk⟩
set_option maxHeartbeats 1000000 in
theorem reaches_any {S D : Nat} {L : List Int} {c : Int} (at' : Int) (w : World) (h : St w S D L c) (h0 : 0 ≤ c) (h1 : c ≤ 1000000000) :
    Calls Tryz.prog 67 #[ptr S, .int .i64 at'] w fun e w' => e = .returned (.bool (inB L at')) ∧ Left S D L (c + 1) w w' := by
  have hmf : ∀ (fn : Fn) (first cap : Array Value) (w : World), (Instr.makeFunc fn first cap).run Tryz.prog w = .ok (.func fn first cap) w := fun _ _ _ _ => rfl
  have hc := h.head
  obtain ⟨n, hn⟩ : ∃ n, n = L.length := ⟨_, rfl⟩
  rw [← hn] at hc
  have HN := Lib.hid hn; clear hn
  have H := Lib.hid h; clear h
  go_enter Tryz.func67, Tryz.ntmps67
  go_wp2_with (first
    | (go_at_call 86; (with_reducible refine (counted_any (S := S) _ _ _ HN.out H.out h0 h1).mono ?_); rintro r w1 ⟨rfl, hk⟩)
    | fail)
  go_ret
  exact ⟨rfl, hk⟩
end Go.Proofs.YthoiaffeenhfgaaGreat

namespace Go.Proofs.YthoiaffeenhfgaaGreat
open Go.RowKit
set_option linter.unusedVariables false
theorem left_set {S D : Nat} {L : List Int} {c : Int} {w w1 : World} (h : Left S D L c w w1) (i : Nat) (v : Int) : Left S D (L.set i v) c w (w1.setCell ⟨D, i, none⟩ (.int .u64 v)) :=
  ⟨h.1.set i v, h.2.setD i _⟩
set_option maxHeartbeats 1000000 in
theorem load_any {S D : Nat} {L : List Int} {c : Int} (at' : Int) (w : World) (h : St w S D L c) (h0 : 0 ≤ c) (h1 : c ≤ 1000000000) :
    Calls Tryz.prog 25 #[ptr S, .int .i64 at'] w fun e w' => e = .returned (.int .u64 (ldv L at')) ∧ Left S D L (c + 1) w w' := by
  obtain ⟨b, hb⟩ : ∃ b, b = inB L at' := ⟨_, rfl⟩
  have H := Lib.hid h; clear h
  cases b
  · have e : ldv L at' = 0 := by unfold ldv; rw [if_neg (by rw [← hb]; simp)]
    rw [e]
    have HB := Lib.hid hb; clear hb e
    go_enter Tryz.func25, Tryz.ntmps25
    go_wp2_with (first
      | (go_at_call 67; (with_reducible refine (reaches_any _ _ H.out h0 h1).mono ?_); rintro r w1 ⟨rfl, hk⟩; rw [← HB.out])
      | fail)
    go_ret
    exact ⟨rfl, hk⟩
  · have hi := in_yes hb.symm
    obtain ⟨i, rfl⟩ : ∃ i : Nat, at' = (i : Int) := ⟨at'.toNat, by omega⟩
    have hil : i < L.length := by omega
    have e : ldv L i = L.getD i 0 := by unfold ldv; rw [if_pos hb.symm]; simp
    rw [e]
    obtain ⟨n, hn⟩ : ∃ n, n = L.length := ⟨_, rfl⟩
    rw [← hn] at hi hil
    have HN := Lib.hid hn
    have HB := Lib.hid hb
    have HI := Lib.hid hil
    obtain ⟨z, hz⟩ : ∃ z, z = L.getD i 0 := ⟨_, rfl⟩
    rw [← hz]
    have HZ := Lib.hid hz
    have hi0 : (0 : Int) ≤ (i : Int) := by omega
    have hi1 : (i : Int) < (n : Int) := by omega
    clear hb e hn hz hi hil
    go_enter Tryz.func25, Tryz.ntmps25
    go_wp2_with (first
      | (go_at_call 67; (with_reducible refine (reaches_any _ _ H.out h0 h1).mono ?_); rintro r w1 ⟨rfl, hk⟩; rw [← HB.out]; have hd := hk.1.head; rw [← HN.out] at hd; have hcl := hk.1.row.cell i (by have := HN.out; have := HI.out; omega); rw [← HZ.out] at hcl)
      | fail)
    go_ret
    exact ⟨rfl, hk⟩
set_option maxHeartbeats 1000000 in
theorem put_any {S D : Nat} {L : List Int} {c : Int} (at' v : Int) (w : World) (h : St w S D L c) (h0 : 0 ≤ c) (h1 : c ≤ 1000000000) :
    Calls Tryz.prog 23 #[ptr S, .int .i64 at', .int .u64 v] w fun e w' => e = .returned (.tuple #[]) ∧ Left S D (ptv L at' v) (c + 1) w w' := by
  obtain ⟨b, hb⟩ : ∃ b, b = inB L at' := ⟨_, rfl⟩
  have H := Lib.hid h; clear h
  cases b
  · have e : ptv L at' v = L := by unfold ptv; rw [if_neg (by rw [← hb]; simp)]
    rw [e]
    have HB := Lib.hid hb; clear hb e
    go_enter Tryz.func23, Tryz.ntmps23
    go_wp2_with (first
      | (go_at_call 67; (with_reducible refine (reaches_any _ _ H.out h0 h1).mono ?_); rintro r w1 ⟨rfl, hk⟩; rw [← HB.out])
      | fail)
    go_returns
    exact ⟨rfl, hk⟩
  · have hi := in_yes hb.symm
    obtain ⟨i, rfl⟩ : ∃ i : Nat, at' = (i : Int) := ⟨at'.toNat, by omega⟩
    have hil : i < L.length := by omega
    have e : ptv L i v = L.set i v := by unfold ptv; rw [if_pos hb.symm]; simp
    rw [e]
    obtain ⟨n, hn⟩ : ∃ n, n = L.length := ⟨_, rfl⟩
    rw [← hn] at hi hil
    have HN := Lib.hid hn
    have HB := Lib.hid hb
    have HI := Lib.hid hil
    have hi0 : (0 : Int) ≤ (i : Int) := by omega
    have hi1 : (i : Int) < (n : Int) := by omega
    clear hb e hn hi hil
    go_enter Tryz.func23, Tryz.ntmps23
    go_wp2_with (first
      | (go_at_call 67; (with_reducible refine (reaches_any _ _ H.out h0 h1).mono ?_); rintro r w1 ⟨rfl, hk⟩; rw [← HB.out]; have hd := hk.1.head; rw [← HN.out] at hd; have hcl := hk.1.row.cell i (by have := HN.out; have := HI.out; omega); have hfr := hk.1.row.frozen i; have HK := Lib.hid (left_set hk i v); clear hk)
      | fail)
    go_returns
    exact ⟨rfl, HK.out⟩
set_option maxHeartbeats 1000000 in
theorem swap_any {S D : Nat} {L : List Int} {c : Int} (at' o v : Int) (w : World) (h : St w S D L c) (h0 : 0 ≤ c) (h1 : c ≤ 1000000000) :
    Calls Tryz.prog 143 #[ptr S, .int .i64 at', .int .u64 o, .int .u64 v] w fun e w' => e = .returned (.bool (swB L at' o)) ∧ Left S D (swv L at' o v) (c + 1) w w' := by
  obtain ⟨b, hb⟩ : ∃ b, b = inB L at' := ⟨_, rfl⟩
  have H := Lib.hid h; clear h
  cases b
  · have e : swB L at' o = false := by unfold swB; rw [← hb]; rfl
    have e2 : swv L at' o v = L := by unfold swv; rw [e]; simp
    rw [e, e2]
    have HB := Lib.hid hb; clear hb e e2
    go_enter Tryz.func143, Tryz.ntmps143
    go_wp2_with (first
      | (go_at_call 67; (with_reducible refine (reaches_any _ _ H.out h0 h1).mono ?_); rintro r w1 ⟨rfl, hk⟩; rw [← HB.out])
      | fail)
    go_ret
    exact ⟨rfl, hk⟩
  · have hi := in_yes hb.symm
    obtain ⟨i, rfl⟩ : ∃ i : Nat, at' = (i : Int) := ⟨at'.toNat, by omega⟩
    have hil : i < L.length := by omega
    obtain ⟨n, hn⟩ : ∃ n, n = L.length := ⟨_, rfl⟩
    obtain ⟨z, hz⟩ : ∃ z, z = L.getD i 0 := ⟨_, rfl⟩
    have e0 : swB L i o = decide (z = o) := by unfold swB; rw [← hb, hz]; simp
    rw [← hn] at hi hil
    have hi0 : (0 : Int) ≤ (i : Int) := by omega
    have hi1 : (i : Int) < (n : Int) := by omega
    by_cases hzo : z = o
    · have e : swB L i o = true := by rw [e0]; simpa using hzo
      have e2 : swv L i o v = L.set i v := by unfold swv; rw [e]; simp
      rw [e, e2]
      have ht : (z != o) = false := by simp [hzo]
      have HN := Lib.hid hn
      have HB := Lib.hid hb
      have HI := Lib.hid hil
      have HZ := Lib.hid hz
      clear hb e e2 e0 hn hz hi hil hzo
      go_enter Tryz.func143, Tryz.ntmps143
      go_wp2_with (first
        | (go_at_call 67; (with_reducible refine (reaches_any _ _ H.out h0 h1).mono ?_); rintro r w1 ⟨rfl, hk⟩; rw [← HB.out]; have hd := hk.1.head; rw [← HN.out] at hd; have hcl := hk.1.row.cell i (by have := HN.out; have := HI.out; omega); rw [← HZ.out] at hcl; have hfr := hk.1.row.frozen i; have HK := Lib.hid (left_set hk i v); clear hk)
        | fail)
      go_ret
      exact ⟨rfl, HK.out⟩
    · have e : swB L i o = false := by rw [e0]; simpa using hzo
      have e2 : swv L i o v = L := by unfold swv; rw [e]; simp
      rw [e, e2]
      have ht : (z != o) = true := by simp [hzo]
      have HN := Lib.hid hn
      have HB := Lib.hid hb
      have HI := Lib.hid hil
      have HZ := Lib.hid hz
      clear hb e e2 e0 hn hz hi hil hzo
      go_enter Tryz.func143, Tryz.ntmps143
      go_wp2_with (first
        | (go_at_call 67; (with_reducible refine (reaches_any _ _ H.out h0 h1).mono ?_); rintro r w1 ⟨rfl, hk⟩; rw [← HB.out]; have hd := hk.1.head; rw [← HN.out] at hd; have hcl := hk.1.row.cell i (by have := HN.out; have := HI.out; omega); rw [← HZ.out] at hcl)
        | fail)
      go_ret
      exact ⟨rfl, hk⟩
end Go.Proofs.YthoiaffeenhfgaaGreat

namespace Go.Proofs.YthoiaffeenhfgaaGreat
open Go.RowKit
set_option linter.unusedVariables false
def SomeSame (xs ys : List Int) (w : World) (e : Ending) (w' : World) : Prop := ∃ b : Bool, (b = true ↔ xs = ys) ∧ e = .returned (.bool b) ∧ Below w.heap.size w w'
set_option maxHeartbeats 2000000 in
theorem same_any (A A' : Option Addr) (cap cap' n m : Nat) (xs ys : List Int) (w : World) (hn : n = xs.length) (hm : m = ys.length) (h : Reads .u64 w A xs) (h' : Reads .u64 w A' ys) (hb : n ≤ 1000000) (hb' : m ≤ 1000000) :
    Calls Tryz.prog 34 #[.slice A n cap, .slice A' m cap'] w (SomeSame xs ys w) := by
  have HN := Lib.hid hn; clear hn
  have HM := Lib.hid hm; clear hm
  by_cases hnm : n = m
  · subst hnm
    have HR := Lib.hid h; clear h
    have HR' := Lib.hid h'; clear h'
    go_enter Tryz.func34, Tryz.ntmps34
    go_wp2
    go_loopw [5] (fun i wr => ∃ k : Nat, k ≤ n ∧ i = .int .i64 k ∧ (∀ j, j < k → xs.getD j 0 = ys.getD j 0) ∧ Below w.heap.size w wr) (fun i _ => n - (intOf i).toNat)
    case atStart => exact ⟨0, Nat.zero_le _, rfl, fun j h => by omega, Below.refl _ _⟩
    case round =>
      obtain ⟨k, hk, rfl, hs, hbe⟩ := hrel
      have HS := Lib.hid hs; clear hs
      by_cases hlt : k < n
      · obtain ⟨b, off, rfl, hbl, hc⟩ := HR.out (by have := HN.out; omega)
        obtain ⟨b', off', rfl, hbl', hc'⟩ := HR'.out (by have := HM.out; omega)
        have c1 := (hbe.cell (p := ⟨b, off + k, none⟩) hbl).trans (hc k (by have := HN.out; omega))
        have d1 := (hbe.cell (p := ⟨b', off' + k, none⟩) hbl').trans (hc' k (by have := HM.out; omega))
        obtain ⟨p, hp⟩ : ∃ p, p = xs.getD k 0 := ⟨_, rfl⟩
        obtain ⟨q, hq⟩ : ∃ q, q = ys.getD k 0 := ⟨_, rfl⟩
        rw [← hp] at c1
        rw [← hq] at d1
        have HP := Lib.hid hp; clear hp hc
        have HQ := Lib.hid hq; clear hq hc'
        have HB := Lib.hid hbe; clear hbe
        have hk0 : (0 : Int) ≤ (k : Int) := by omega
        have hk1 : (k : Int) < (n : Int) := by omega
        by_cases e : p = q
        · have ht : (p != q) = false := by simp [e]
          have HE := Lib.hid e; clear e
          go_wp2
          go_quiet (fail)
          go_wp2
          go_roundw
          case rel =>
            refine ⟨k + 1, by omega, by go_num, fun j hj => ?_, below_drewN HB.out _⟩
            by_cases e2 : j = k
            · subst e2; rw [← HP.out, ← HQ.out, HE.out]
            · exact HS.out j (by omega)
          case measure => simp [intOf]; omega
        · have ht : (p != q) = true := by simp [e]
          have HE := Lib.hid e; clear e
          go_wp2
          go_quiet (fail)
          go_wp2
          go_ret
          exact ⟨false, ⟨fun h => by simp at h, fun h => absurd (by rw [HP.out, HQ.out, h]) HE.out⟩, rfl, below_drewN HB.out _⟩
      · obtain rfl : k = n := by omega
        go_wp2
        go_ret
        exact ⟨true, ⟨fun _ => ints_ext _ _ (by rw [← HN.out, ← HM.out]) (by rw [← HN.out]; exact HS.out), fun _ => rfl⟩, rfl, hbe⟩
  · have hne : ((n : Int) != (m : Int)) = true := by simp; omega
    have hne2 : (n != m) = true := by simp; omega
    have HE := Lib.hid hnm; clear hnm
    go_enter Tryz.func34, Tryz.ntmps34
    go_wp2
    go_ret
    exact ⟨false, ⟨fun h => by simp at h, fun h => absurd (by rw [HN.out, HM.out, h]) HE.out⟩, rfl, Below.refl _ _⟩
theorem same_yes (A A' : Option Addr) (cap cap' n m : Nat) (l : List Int) (w : World) (hn : n = l.length) (hm : m = l.length) (h : Reads .u64 w A l) (h' : Reads .u64 w A' l) (hb : n ≤ 1000000) :
    Calls Tryz.prog 34 #[.slice A n cap, .slice A' m cap'] w fun e w' => e = .returned (.bool true) ∧ Below w.heap.size w w' :=
  (same_any A A' cap cap' n m l l w hn hm h h' hb (by omega)).mono fun e w' ⟨b, hbt, he, hw⟩ => ⟨by rw [he, hbt.2 rfl], hw⟩
end Go.Proofs.YthoiaffeenhfgaaGreat
