/-  -/
import Derived.Test.YtpocihddecemfaaGreatJ10
import Derived.Test.YtpocihddecemfaaGreatJ6
import Derived.Test.YtpocihddecemfaaGreatJ2
import Derived.ScopeJumps
import Derived.WalkMore
import Derived.Test.YtpocihddecemfaaGreatJ1
namespace Go.Proofs.YtpocihddecemfaaGreat
open Go.RowKit
set_option linter.unusedVariables false
set_option linter.unusedSimpArgs false
variable {w0 : World} {M S D Ab : Nat} {lv : Value} {m : Sm} {L : List Int} {c t : Int}
theorem eqin_fn (d f M : Nat) (w : World) : (Op.equalIn (d + 1) 106 (fnv f M) .nilFunc).run Tryz.prog w = .ok false w := by
  simp [Op.equalIn, run_underlying Tryz.underlying106]
theorem eqin_nil (d : Nat) (w : World) : (Op.equalIn (d + 1) 106 .nilFunc .nilFunc).run Tryz.prog w = .ok true w := by
  simp [Op.equalIn, run_underlying Tryz.underlying106]
@[go_sem] theorem eql_fn (f M : Nat) (w : World) : (binOp .eql 106 (fnv f M) .nilFunc).run Tryz.prog w = .ok (.bool false) w := by
  have h : (Op.equal 106 (fnv f M) .nilFunc).run Tryz.prog w = .ok false w := eqin_fn 9999 f M w
  simp only [binOp]
  simp [h]
@[go_sem] theorem eql_nil (w : World) : (binOp .eql 106 .nilFunc .nilFunc).run Tryz.prog w = .ok (.bool true) w := by
  have h : (Op.equal 106 .nilFunc .nilFunc).run Tryz.prog w = .ok true w := eqin_nil 9999 w
  simp only [binOp]
  simp [h]
def cst (m : Sm) (c : Int) : Int := if m.pc = 0 then c else c + 1
theorem Mi.nx {w : World} (h : Mi w0 w M S D lv Ab m L c) : w.cell? ⟨M, 3, none⟩ = some (nxt M m) := Mst.c3 h
theorem nfn_is (m : Sm) (P : Nat → Prop) (a0 : P 183) (a1 : P 185) (a2 : P 186) (a3 : P 165) (a4 : P 169) (a5 : P 174) : P (nfn m) := by
  unfold nfn
  repeat' split
  all_goals assumption
theorem enter_nfn (m : Sm) (a : Array Value) (w : World) : (callFunc (nfn m) a).run Tryz.prog w = .ok (.enter (nfn m) a) w := by
  refine nfn_is m (fun f => (callFunc f a).run Tryz.prog w = .ok (.enter f a) w) ?_ ?_ ?_ ?_ ?_ ?_ <;> simp [go_sem]
set_option maxHeartbeats 1000000 in
theorem step_on (w : World) (h : Mi w0 w M S D lv Ab m L c) (wm : Wm t m) (ww : WW L) (h0 : 0 ≤ c) (h1 : c ≤ 1000000000) (ht : t ≤ 1000000000) (hp : m.pc ≠ 0) :
    Calls Tryz.prog 205 #[ptr M, ptr S] w fun a w' => a = .returned (.bool (decide ((sstp L m).2.pc = 0))) ∧ Mi w0 w' M S D lv Ab (sstp L m).2 (sstp L m).1 (c + 1) := by
  have c4 := h.nx
  rw [nxt_at hp] at c4
  have HN := Lib.hid (next_any h hp wm ww h0 h1 ht)
  have hen := fun (a : Array Value) (w : World) => enter_nfn m a w
  generalize nfn m = f at c4 HN hen
  generalize sstp L m = z at HN ⊢
  obtain ⟨L', m'⟩ := z
  have HP := Lib.hid hp
  clear h hp wm ww
  by_cases hp' : m'.pc = 0
  · have e1 : decide (m'.pc = 0) = true := by simpa using hp'
    rw [e1]
    have HP' := Lib.hid hp'; clear hp' e1
    go_enter Tryz.func205, Tryz.ntmps205
    go_wp2_with (first
      | ((with_reducible refine HN.out.mono ?_); rintro r w1 ⟨rfl, hk⟩; have HK := Lib.hid hk; have d4 := hk.nx; rw [nxt_no HP'.out] at d4; clear hk)
      | fail)
    go_ret
    exact ⟨rfl, HK.out⟩
  · have e1 : decide (m'.pc = 0) = false := by simpa using hp'
    rw [e1]
    have HP' := Lib.hid hp'; clear hp' e1
    go_enter Tryz.func205, Tryz.ntmps205
    go_wp2_with (first
      | ((with_reducible refine HN.out.mono ?_); rintro r w1 ⟨rfl, hk⟩; have HK := Lib.hid hk; have d4 := hk.nx; rw [nxt_at HP'.out] at d4; clear hk)
      | fail)
    go_ret
    exact ⟨rfl, HK.out⟩
set_option maxHeartbeats 1000000 in
theorem step_off (w : World) (h : Mi w0 w M S D lv Ab m L c) (hp : m.pc = 0) :
    Calls Tryz.prog 205 #[ptr M, ptr S] w fun a w' => a = .returned (.bool true) ∧ w = w' := by
  have c4 := h.nx
  rw [nxt_no hp] at c4
  clear h hp
  go_enter Tryz.func205, Tryz.ntmps205
  go_wp2
  go_ret
  exact ⟨rfl, rfl⟩
theorem step_any (w : World) (h : Mi w0 w M S D lv Ab m L c) (wm : Wm t m) (ww : WW L) (h0 : 0 ≤ c) (h1 : c ≤ 1000000000) (ht : t ≤ 1000000000) :
    Calls Tryz.prog 205 #[ptr M, ptr S] w fun a w' => a = .returned (.bool (decide ((sstp L m).2.pc = 0))) ∧ Mi w0 w' M S D lv Ab (sstp L m).2 (sstp L m).1 (cst m c) := by
  by_cases hp : m.pc = 0
  · rw [sstp_no hp]
    refine (step_off w h hp).mono ?_
    rintro a w' ⟨rfl, rfl⟩
    exact ⟨by simp [hp], by simpa [cst, hp] using h⟩
  · refine (step_on w h wm ww h0 h1 ht hp).mono ?_
    rintro a w' ⟨rfl, hk⟩
    exact ⟨rfl, by simpa [cst, hp] using hk⟩
def MM (w : World) (M : Nat) (lv : Value) (m : Sm) : Prop := Mem w M lv m.k.head (fnv (ffn m) M) (nxt M m) m.h m.item m.link (sItem m) m.tries
theorem MM.lt {w : World} (h : MM w M lv m) : M < w.heap.size := (Array.getElem?_eq_some_iff.1 h).1
theorem MM.mi {w : World} (h : MM w M lv m) (hs : St w S D L c) (hl : Lk w lv Ab m.k.links) (n1 : M ≠ S) (n2 : M ≠ D) (b2 : Ab ≠ M ∧ Ab ≠ S ∧ Ab ≠ D) : Mi w w M S D lv Ab m L c :=
  ⟨h, hs, n1, n2, hl, b2, .refl _ _ _ _⟩
theorem Mi.mm {w : World} (h : Mi w0 w M S D lv Ab m L c) : MM w M lv m := h.mem
theorem Mi.st' {w : World} (h : Mi w0 w M S D lv Ab m L c) : St w S D L c := h.st
theorem Mi.u' {w : World} (h : Mi w0 w M S D lv Ab m L c) : U3 M S D w0 w := h.u
set_option maxHeartbeats 1000000 in
theorem item_any (w : World) (h : MM w M lv m) (wm : Wm t m) : Calls Tryz.prog 204 #[ptr M] w fun a w' => a = .returned (.int .i64 (sItem m)) ∧ w = w' := by
  have c7 : w.cell? ⟨M, 7, none⟩ = some (.int .u32 (sItem m)) := by unfold MM Mem at h; simp [World.cell?, h]
  have i0 : 0 ≤ sItem m ∧ sItem m ≤ 4294967295 := by have := wm.i; unfold sItem; split <;> omega
  obtain ⟨y, hy⟩ : ∃ y, y = sItem m := ⟨_, rfl⟩
  rw [← hy] at c7 i0 ⊢
  obtain ⟨y0, y1⟩ := i0
  clear h hy wm
  go_enter Tryz.func204, Tryz.ntmps204
  go_wp2
  go_ret
  exact ⟨rfl, rfl⟩
theorem cnt_any (w : World) (h : St w S D L c) : Calls Tryz.prog 16 #[ptr S] w fun a w' => a = .returned (.int .i64 c) ∧ w = w' := by
  have hc := h.many
  clear h
  go_enter Tryz.func16, Tryz.ntmps16
  go_wp2
  go_ret
  exact ⟨rfl, rfl⟩
def NewM (w : World) (lv : Value) (m : Sm) (a : Ending) (w' : World) : Prop := ∃ M, a = .returned (ptr M) ∧ w.heap.size ≤ M ∧ MM w' M lv m ∧ Below w.heap.size w w'
set_option maxHeartbeats 1000000 in
theorem numbered_any (x : Int) (w : World) (hx : -9223372036854775808 ≤ x ∧ x ≤ 9223372036854775807) : Calls Tryz.prog 182 #[.int .i64 x] w fun a w' => a = .returned (.int .u32 (itemOf x)) ∧ w = w' := by
  by_cases h1 : x < 1
  · have e : itemOf x = 0 := by unfold itemOf; rw [if_pos (.inl h1)]
    rw [e]; clear e
    go_enter Tryz.func182, Tryz.ntmps182
    go_wp2
    go_ret
    exact ⟨rfl, rfl⟩
  · by_cases h2 : 4294967295 < x
    · have e : itemOf x = 0 := by unfold itemOf; rw [if_pos (.inr h2)]
      rw [e]; clear e
      go_enter Tryz.func182, Tryz.ntmps182
      go_wp2
      go_ret
      exact ⟨rfl, rfl⟩
    · have e : itemOf x = x := by unfold itemOf; rw [if_neg (by omega)]
      rw [e]; clear e
      go_enter Tryz.func182, Tryz.ntmps182
      go_wp2
      go_ret
      exact ⟨rfl, rfl⟩
theorem new_m (w : World) (k : Sk) (x : Int) (g kd : Nat) (hg : kd = 1 ∧ g = 183 ∨ kd = 2 ∧ g = 165) :
    NewM w lv ⟨kd, 1, k, x, 0, 0, 0⟩ (.returned (ptr w.heap.size)) (w.alloc (.cells #[.int .i64 k.head, lv, fnv g w.heap.size, fnv g w.heap.size, .int .u64 0, .int .u32 x, .int .u32 0, .int .u32 0, .int .i64 0] 208)) := by
  refine ⟨w.heap.size, rfl, Nat.le_refl _, ?_, below_alloc0 (Below.refl _ _) _⟩
  have e1 : nxt w.heap.size ⟨kd, 1, k, x, 0, 0, 0⟩ = fnv g w.heap.size := by rcases hg with ⟨rfl, rfl⟩ | ⟨rfl, rfl⟩ <;> simp [nxt, nfn]
  have e2 : ffn ⟨kd, 1, k, x, 0, 0, 0⟩ = g := by rcases hg with ⟨rfl, rfl⟩ | ⟨rfl, rfl⟩ <;> simp [ffn]
  unfold MM Mem
  rw [e1, e2]
  show (w.heap.push _)[w.heap.size]? = _
  simp [sItem]
set_option maxHeartbeats 1000000 in
theorem push_any {zs : List Int} (k : Sk) (x : Int) (w : World) (hl : Lk w lv Ab zs) (hx : -9223372036854775808 ≤ x ∧ x ≤ 9223372036854775807) : Calls Tryz.prog 177 #[.int .i64 k.head, lv, .int .i64 x] w (NewM w lv (mPush k x)) := by
  have hmf : ∀ (fn : Fn) (first cap : Array Value) (w : World), (Instr.makeFunc fn first cap).run Tryz.prog w = .ok (.func fn first cap) w := fun _ _ _ _ => rfl
  obtain ⟨c, _, _, hr⟩ := hl
  rcases hr with ⟨rfl, _⟩ | ⟨rfl, _⟩
  · go_enter Tryz.func177, Tryz.ntmps177
    go_wp2_with (first
      | (go_at_call 182; (with_reducible refine (numbered_any _ _ hx).mono ?_); rintro r w1 ⟨rfl, hw⟩; cases hw)
      | fail)
    go_ret
    exact new_m w k (itemOf x) 183 1 (.inl ⟨rfl, rfl⟩)
  · go_enter Tryz.func177, Tryz.ntmps177
    go_wp2_with (first
      | (go_at_call 182; (with_reducible refine (numbered_any _ _ hx).mono ?_); rintro r w1 ⟨rfl, hw⟩; cases hw)
      | fail)
    go_ret
    exact new_m w k (itemOf x) 183 1 (.inl ⟨rfl, rfl⟩)
set_option maxHeartbeats 1000000 in
theorem pop_any {zs : List Int} (k : Sk) (w : World) (hl : Lk w lv Ab zs) : Calls Tryz.prog 160 #[.int .i64 k.head, lv] w (NewM w lv (mPop k)) := by
  have hmf : ∀ (fn : Fn) (first cap : Array Value) (w : World), (Instr.makeFunc fn first cap).run Tryz.prog w = .ok (.func fn first cap) w := fun _ _ _ _ => rfl
  obtain ⟨c, _, _, hr⟩ := hl
  rcases hr with ⟨rfl, _⟩ | ⟨rfl, _⟩
  · go_enter Tryz.func160, Tryz.ntmps160
    go_wp2
    go_ret
    exact new_m w k 0 165 2 (.inr ⟨rfl, rfl⟩)
  · go_enter Tryz.func160, Tryz.ntmps160
    go_wp2
    go_ret
    exact new_m w k 0 165 2 (.inr ⟨rfl, rfl⟩)
theorem wm_push (k : Sk) (x : Int) : Wm 0 (mPush k x) := by
  refine ⟨.inl rfl, (by simp [mPush]), (by simp [mPush]), ?_, (by simp [mPush]), (by simp [mPush])⟩
  simp only [mPush]; unfold itemOf; split <;> omega
theorem wm_pop (k : Sk) : Wm 0 (mPop k) := ⟨.inr rfl, (by simp [mPop]), (by simp [mPop]), (by simp [mPop]), (by simp [mPop]), (by simp [mPop])⟩
end Go.Proofs.YtpocihddecemfaaGreat

namespace Go.Proofs.YtpocihddecemfaaGreat
open Go.RowKit
set_option linter.unusedVariables false
set_option linter.unusedSimpArgs false
variable {B S D Ab M : Nat} {lv : Value} {w0 w w' : World} {zs L : List Int} {k t : Int} {m : Sm}
theorem sstp_k (L : List Int) (m : Sm) : (sstp L m).2.k = m.k := by
  unfold sstp swapS
  repeat' (first | rfl | refine ite_ind (P := fun z : List Int × Sm => z.2.k = m.k) ?_ ?_)
attribute [local irreducible] sruns
end Go.Proofs.YtpocihddecemfaaGreat

namespace Go.Proofs.YtpocihddecemfaaGreat
open Go.RowKit
set_option linter.unusedVariables false
theorem info3 : (Tryz.prog.info? 3).map (fun i => (i.zero, i.size, i.bytes)) = some (some (.int .i64 0), 1, 8) := by kernel_rfl
theorem grown_of_below {a b : World} {row : Option Nat} (h : Below a.heap.size a b) : a.grownBy b row :=
  ⟨h.os, h.tape, h.output, h.size, fun i hi _ => h.block i hi⟩
def OwnI (k : IntKind) (e : TypeId) (B : Nat) (w0 wr : World) (v : Value) (l : List Int) : Prop :=
  wr.ownsRow B e 1 v l.length (l.map (Value.int k)) ∧ Below B w0 wr
theorem OwnI.nil {k : IntKind} {e : TypeId} {B : Nat} {w0 wr : World} (h : Below B w0 wr) : OwnI k e B w0 wr (.slice none 0 0) [] := ⟨World.ownsRow_nil _ _ _ _, h⟩
theorem OwnI.reads {k : IntKind} {e : TypeId} {B : Nat} {w0 wr : World} {v : Value} {l : List Int} (h : OwnI k e B w0 wr v l) : ∃ A cap, v = .slice A l.length cap ∧ Reads k wr A l ∧ (A = none → cap = 0) ∧ l.length ≤ cap ∧ cap ≤ maxLen := by
  obtain ⟨ho, hb⟩ := h
  have hlt := ho.lt
  have hcell := fun g (hg : v.ownBlock = some g) => ho.cells hg
  obtain ⟨hl, ⟨h1, h2⟩ | ⟨g, cap, cur, h1, h2, h3, h4, h5, h6, h7⟩⟩ := ho
  · exact ⟨none, 0, by rw [h1, h2], fun h => by omega, fun _ => rfl, by omega, by unfold maxLen; omega⟩
  · refine ⟨_, cap, h1, fun _ => ⟨g, 0, rfl, (hlt g (by rw [h1]; rfl)).2, fun i hi => ?_⟩, (fun e => by cases e), h4, h5⟩
    have c0 := hcell g (by rw [h1]; rfl) i _ (map_get k l i hi)
    rw [add_off] at c0
    exact c0
theorem OwnI.blk {k : IntKind} {e : TypeId} {B : Nat} {w0 wr : World} {v : Value} {l : List Int} (h : OwnI k e B w0 wr v l) : ∃ A cap, v = .slice A l.length cap ∧ (0 < l.length → ∃ b off, A = some ⟨b, off, none⟩ ∧ B ≤ b ∧ b < wr.heap.size ∧ ∀ j, j < l.length → wr.cell? ⟨b, off + j, none⟩ = some (.int k (l.getD j 0))) := by
  obtain ⟨ho, hb⟩ := h
  have hlt := ho.lt
  have hcell := fun g (hg : v.ownBlock = some g) => ho.cells hg
  obtain ⟨hl, ⟨h1, h2⟩ | ⟨g, cap, cur, h1, h2, h3, h4, h5, h6, h7⟩⟩ := ho
  · exact ⟨none, 0, by rw [h1, h2], fun h => by omega⟩
  · refine ⟨_, cap, h1, fun _ => ⟨g, 0, rfl, (hlt g (by rw [h1]; rfl)).1, (hlt g (by rw [h1]; rfl)).2, fun i hi => ?_⟩⟩
    have c0 := hcell g (by rw [h1]; rfl) i _ (map_get k l i hi)
    rw [add_off] at c0
    exact c0
end Go.Proofs.YtpocihddecemfaaGreat

namespace Go.Proofs.YtpocihddecemfaaGreat
open Go.RowKit
set_option linter.unusedVariables false
set_option linter.unusedSimpArgs false
abbrev kval (h : Int) (A : Option Addr) (n cap : Nat) : Value := .agg #[.int .i64 h, .slice A n cap]
set_option maxHeartbeats 1000000 in
theorem refAt_any (h : Int) (A : Option Addr) (n cap : Nat) (zs : List Int) (x : Int) (w : World) (hn : n = zs.length) (hR : Reads .i64 w A zs) (hl : n ≤ 1000000) (x0 : 0 ≤ x) (x1 : x ≤ 4294967295) :
    Calls Tryz.prog 123 #[kval h A n cap, .int .u32 x] w fun e w' => e = .returned (.int .i64 (atOf zs x)) ∧ Below w.heap.size w w' := by
  by_cases h1 : x < 1
  · have e : atOf zs x = -1 := by unfold atOf; rw [if_neg (by omega)]
    rw [e]
    have d1 : decide (x < 1) = true := by simpa using h1
    clear hR hl e hn
    go_enter Tryz.func123, Tryz.ntmps123
    go_wp2_with (fail)
    go_ret
    exact ⟨rfl, below_alloc0 (Below.refl _ _) _⟩
  · have d1 : decide (x < 1) = false := by simpa using h1
    by_cases h2 : (n : Int) < x
    · have e : atOf zs x = -1 := by unfold atOf; rw [if_neg (by omega)]
      rw [e]
      have d2 : decide (x > (n : Int)) = true := by simpa using h2
      clear hR hl e hn
      go_enter Tryz.func123, Tryz.ntmps123
      go_wp2_with (fail)
      go_ret
      exact ⟨rfl, below_alloc0 (Below.refl _ _) _⟩
    · have d2 : decide (x > (n : Int)) = false := by simpa using h2
      obtain ⟨i, hi⟩ : ∃ i : Nat, x - 1 = (i : Int) := ⟨(x - 1).toNat, by omega⟩
      have hi1 : i < n := by omega
      have e : atOf zs x = zs.getD i 0 := by unfold atOf; rw [if_pos (by omega), hi]; rfl
      rw [e]
      obtain ⟨b, off, rfl, hbl, hc2⟩ := hR (by omega)
      have c1 := hc2 i (by omega)
      have hi0 : (0 : Int) ≤ (i : Int) := by omega
      have hi2 : (i : Int) < (n : Int) := by omega
      obtain ⟨z, hzz⟩ : ∃ z, z = zs.getD i 0 := ⟨_, rfl⟩
      rw [← hzz] at c1 ⊢
      have c2 : (w.alloc (.cells #[.int .i64 h, .slice (some ⟨b, off, none⟩) n cap] 53)).cell? ⟨b, off + i, none⟩ = some (.int .i64 z) := ((below_alloc0 (Below.refl _ _) _).cell (p := ⟨b, off + i, none⟩) hbl).trans c1
      clear hR hc2 hl e hn hzz
      go_enter Tryz.func123, Tryz.ntmps123
      go_wp2_with (fail)
      go_ret
      exact ⟨rfl, below_alloc0 (Below.refl _ _) _⟩
end Go.Proofs.YtpocihddecemfaaGreat

namespace Go.Proofs.YtpocihddecemfaaGreat
open Go.RowKit
set_option linter.unusedVariables false
set_option linter.unusedSimpArgs false
abbrev mV (kd pc hd : Int) (A : Option Addr) (n cap : Nat) (it h li tr : Int) : Value := .agg #[.int .i64 kd, .int .i64 pc, .int .i64 hd, .slice A n cap, .int .u32 it, .int .u64 h, .int .u32 li, .int .i64 tr]
abbrev smV (m : Sm) (A : Option Addr) (n cap : Nat) : Value := mV m.kind m.pc m.k.head A n cap m.item m.h m.link m.tries
set_option maxHeartbeats 2000000 in
theorem rpush_any (hd : Int) (A : Option Addr) (n cap : Nat) (x : Int) (w : World) (hx : -9223372036854775808 ≤ x ∧ x ≤ 9223372036854775807) : Calls Tryz.prog 114 #[kval hd A n cap, .int .i64 x] w fun a w' => a = .returned (mV 1 1 hd A n cap (itemOf x) 0 0 0) ∧ Below w.heap.size w w' := by
  by_cases h1 : x < 0
  · have e : itemOf x = 0 := by unfold itemOf; rw [if_pos (.inl (by omega))]
    have d1 : decide (x < 0) = true := by simpa using h1
    rw [e]; clear e
    go_enter Tryz.func114, Tryz.ntmps114
    go_wp2_with (fail)
    exact bodyPost_ret (v := mV 1 1 hd A n cap 0 0 0 0) (by simp [results, Tryz.results114, go_sem]) rfl ⟨rfl, below_alloc0 (below_alloc0 (Below.refl _ _) _) _⟩
  have d1 : decide (x < 0) = false := by simpa using h1
  by_cases h2 : x > 4294967295
  · have e : itemOf x = 0 := by unfold itemOf; rw [if_pos (.inr (by omega))]
    have d2 : decide (x > 4294967295) = true := by simpa using h2
    rw [e]; clear e
    go_enter Tryz.func114, Tryz.ntmps114
    go_wp2_with (fail)
    exact bodyPost_ret (v := mV 1 1 hd A n cap 0 0 0 0) (by simp [results, Tryz.results114, go_sem]) rfl ⟨rfl, below_alloc0 (below_alloc0 (Below.refl _ _) _) _⟩
  have d2 : decide (x > 4294967295) = false := by simpa using h2
  have e : itemOf x = x := by unfold itemOf; split <;> omega
  rw [e]; clear e
  go_enter Tryz.func114, Tryz.ntmps114
  go_wp2_with (fail)
  exact bodyPost_ret (v := mV 1 1 hd A n cap x 0 0 0) (by simp [results, Tryz.results114, go_sem]) rfl ⟨rfl, below_alloc0 (below_alloc0 (Below.refl _ _) _) _⟩
set_option maxHeartbeats 2000000 in
theorem rpop_any (hd : Int) (A : Option Addr) (n cap : Nat) (w : World) : Calls Tryz.prog 111 #[kval hd A n cap] w fun a w' => a = .returned (mV 2 1 hd A n cap 0 0 0 0) ∧ Below w.heap.size w w' := by
  go_enter Tryz.func111, Tryz.ntmps111
  go_wp2_with (fail)
  exact bodyPost_ret (v := mV 2 1 hd A n cap 0 0 0 0) (by simp [results, Tryz.results111, go_sem]) rfl ⟨rfl, below_alloc0 (below_alloc0 (Below.refl _ _) _) _⟩
set_option maxHeartbeats 2000000 in
theorem rstep0_any (R : Option Addr) (n' capR : Nat) (kd hd : Int) (A : Option Addr) (n cap : Nat) (it h li tr : Int) (w : World) :
    Calls Tryz.prog 113 #[.slice R n' capR, mV kd 0 hd A n cap it h li tr] w fun a w' => a = .returned (.tuple #[.slice R n' capR, mV kd 0 hd A n cap it h li tr]) ∧ Below w.heap.size w w' := by
  go_enter Tryz.func113, Tryz.ntmps113
  go_wp2_with (fail)
  go_region_with (fail)
  go_wp2
  exact bodyPost_ret (v := .tuple #[.slice R n' capR, mV kd 0 hd A n cap it h li tr]) (by simp [results, Tryz.results113, go_sem]) rfl ⟨rfl, (below_alloc0 (below_alloc0 (Below.refl _ _) _) _).drew⟩
theorem below_two (w : World) (o o' : Obj) : Below w.heap.size w ((w.alloc o).alloc o') := below_alloc0 (below_alloc0 (Below.refl _ _) _) _
set_option maxHeartbeats 4000000 in
theorem rstep1_push (R : Option Addr) (n' capR : Nat) (L : List Int) (hd : Int) (A : Option Addr) (n cap : Nat) (it h li tr : Int) (w : World) (hn : n' = L.length) (hR : Reads .u64 w R L) (ww : WW L) (t0 : 0 ≤ tr) (t1 : tr ≤ 1000000000) :
    Calls Tryz.prog 113 #[.slice R n' capR, mV 1 1 hd A n cap it h li tr] w fun a w' => a = .returned (.tuple #[.slice R n' capR, mV 1 2 hd A n cap it (ldq L hd) (low (ldq L hd)) (tr + 1)]) ∧ Below w.heap.size w w' := by
  obtain ⟨g, hg⟩ : ∃ g, g = ldq L hd := ⟨_, rfl⟩
  have hgr := ww.ldq hd
  rw [← hg] at hgr
  obtain ⟨g0, g1⟩ := hgr
  have hg2 : g = ldv L hd := by rw [hg, ldv_eq]
  rw [← hg]
  obtain ⟨x, hx⟩ : ∃ x, x = low g := ⟨_, rfl⟩
  rw [← hx]
  have hx2 : x = g % 4294967296 := hx
  have HG := Lib.hid hg2; have HX := Lib.hid hx2; have HN := Lib.hid hn; have HR := Lib.hid hR
  clear hg hx hg2 hx2 hn hR ww
  go_enter Tryz.func113, Tryz.ntmps113
  go_wp2_with (first
    | (go_at_call 53; (with_reducible refine (rload_any R n' capR L hd _ HN.out (HR.out.below (below_two _ _ _) (Nat.le_refl _))).mono ?_); rintro r w1 ⟨rfl, hw⟩; cases hw; rw [← HG.out])
    | (go_at_call 46; (with_reducible refine (refLow_any g g0 g1 _).mono ?_); rintro r w1 ⟨rfl, hw⟩; cases hw; rw [← HX.out])
    | fail)
  go_region
  go_wp2
  exact bodyPost_ret (v := .tuple #[.slice R n' capR, mV 1 2 hd A n cap it g x (tr + 1)]) (by simp [results, Tryz.results113, go_sem]) rfl ⟨rfl, (below_two _ _ _).drew⟩
end Go.Proofs.YtpocihddecemfaaGreat

namespace Go.Proofs.YtpocihddecemfaaGreat
open Go.RowKit
set_option linter.unusedVariables false
abbrev put8 (w : World) (B : Nat) (u0 u1 u2 u3 u4 u5 u6 u7 : Value) : World := ((((((((w.setCell ⟨B, 0, none⟩ u0).setCell ⟨B, 1, none⟩ u1).setCell ⟨B, 2, none⟩ u2).setCell ⟨B, 3, none⟩ u3).setCell ⟨B, 4, none⟩ u4).setCell ⟨B, 5, none⟩ u5).setCell ⟨B, 6, none⟩ u6).setCell ⟨B, 7, none⟩ u7)
theorem put8_same (w : World) (B : Nat) (t : TypeId) (x0 x1 x2 x3 x4 x5 x6 x7 : Value) (h : w.heap[B]? = some (.cells #[x0, x1, x2, x3, x4, x5, x6, x7] t (0, 0))) (u0 u1 u2 u3 u4 u5 u6 u7 : Value) : (put8 w B u0 u1 u2 u3 u4 u5 u6 u7).heap[B]? = some (.cells #[u0, u1, u2, u3, u4, u5, u6, u7] t (0, 0)) := by
  have h0 : (w.setCell ⟨B, 0, none⟩ u0).heap[B]? = some (.cells #[u0, x1, x2, x3, x4, x5, x6, x7] t (0, 0)) := (heap_setCell_same _ B 0 _ t u0 h).trans (congrArg (fun c => some (Obj.cells c t (0, 0))) (show (#[x0, x1, x2, x3, x4, x5, x6, x7] : Array Value).setIfInBounds 0 u0 = #[u0, x1, x2, x3, x4, x5, x6, x7] from rfl))
  have h1 : ((w.setCell ⟨B, 0, none⟩ u0).setCell ⟨B, 1, none⟩ u1).heap[B]? = some (.cells #[u0, u1, x2, x3, x4, x5, x6, x7] t (0, 0)) := (heap_setCell_same _ B 1 _ t u1 h0).trans (congrArg (fun c => some (Obj.cells c t (0, 0))) (show (#[u0, x1, x2, x3, x4, x5, x6, x7] : Array Value).setIfInBounds 1 u1 = #[u0, u1, x2, x3, x4, x5, x6, x7] from rfl))
  have h2 : (((w.setCell ⟨B, 0, none⟩ u0).setCell ⟨B, 1, none⟩ u1).setCell ⟨B, 2, none⟩ u2).heap[B]? = some (.cells #[u0, u1, u2, x3, x4, x5, x6, x7] t (0, 0)) := (heap_setCell_same _ B 2 _ t u2 h1).trans (congrArg (fun c => some (Obj.cells c t (0, 0))) (show (#[u0, u1, x2, x3, x4, x5, x6, x7] : Array Value).setIfInBounds 2 u2 = #[u0, u1, u2, x3, x4, x5, x6, x7] from rfl))
  have h3 : ((((w.setCell ⟨B, 0, none⟩ u0).setCell ⟨B, 1, none⟩ u1).setCell ⟨B, 2, none⟩ u2).setCell ⟨B, 3, none⟩ u3).heap[B]? = some (.cells #[u0, u1, u2, u3, x4, x5, x6, x7] t (0, 0)) := (heap_setCell_same _ B 3 _ t u3 h2).trans (congrArg (fun c => some (Obj.cells c t (0, 0))) (show (#[u0, u1, u2, x3, x4, x5, x6, x7] : Array Value).setIfInBounds 3 u3 = #[u0, u1, u2, u3, x4, x5, x6, x7] from rfl))
  have h4 : (((((w.setCell ⟨B, 0, none⟩ u0).setCell ⟨B, 1, none⟩ u1).setCell ⟨B, 2, none⟩ u2).setCell ⟨B, 3, none⟩ u3).setCell ⟨B, 4, none⟩ u4).heap[B]? = some (.cells #[u0, u1, u2, u3, u4, x5, x6, x7] t (0, 0)) := (heap_setCell_same _ B 4 _ t u4 h3).trans (congrArg (fun c => some (Obj.cells c t (0, 0))) (show (#[u0, u1, u2, u3, x4, x5, x6, x7] : Array Value).setIfInBounds 4 u4 = #[u0, u1, u2, u3, u4, x5, x6, x7] from rfl))
  have h5 : ((((((w.setCell ⟨B, 0, none⟩ u0).setCell ⟨B, 1, none⟩ u1).setCell ⟨B, 2, none⟩ u2).setCell ⟨B, 3, none⟩ u3).setCell ⟨B, 4, none⟩ u4).setCell ⟨B, 5, none⟩ u5).heap[B]? = some (.cells #[u0, u1, u2, u3, u4, u5, x6, x7] t (0, 0)) := (heap_setCell_same _ B 5 _ t u5 h4).trans (congrArg (fun c => some (Obj.cells c t (0, 0))) (show (#[u0, u1, u2, u3, u4, x5, x6, x7] : Array Value).setIfInBounds 5 u5 = #[u0, u1, u2, u3, u4, u5, x6, x7] from rfl))
  have h6 : (((((((w.setCell ⟨B, 0, none⟩ u0).setCell ⟨B, 1, none⟩ u1).setCell ⟨B, 2, none⟩ u2).setCell ⟨B, 3, none⟩ u3).setCell ⟨B, 4, none⟩ u4).setCell ⟨B, 5, none⟩ u5).setCell ⟨B, 6, none⟩ u6).heap[B]? = some (.cells #[u0, u1, u2, u3, u4, u5, u6, x7] t (0, 0)) := (heap_setCell_same _ B 6 _ t u6 h5).trans (congrArg (fun c => some (Obj.cells c t (0, 0))) (show (#[u0, u1, u2, u3, u4, u5, x6, x7] : Array Value).setIfInBounds 6 u6 = #[u0, u1, u2, u3, u4, u5, u6, x7] from rfl))
  have h7 : ((((((((w.setCell ⟨B, 0, none⟩ u0).setCell ⟨B, 1, none⟩ u1).setCell ⟨B, 2, none⟩ u2).setCell ⟨B, 3, none⟩ u3).setCell ⟨B, 4, none⟩ u4).setCell ⟨B, 5, none⟩ u5).setCell ⟨B, 6, none⟩ u6).setCell ⟨B, 7, none⟩ u7).heap[B]? = some (.cells #[u0, u1, u2, u3, u4, u5, u6, u7] t (0, 0)) := (heap_setCell_same _ B 7 _ t u7 h6).trans (congrArg (fun c => some (Obj.cells c t (0, 0))) (show (#[u0, u1, u2, u3, u4, u5, u6, x7] : Array Value).setIfInBounds 7 u7 = #[u0, u1, u2, u3, u4, u5, u6, u7] from rfl))
  exact h7
theorem put8_upd (w : World) (B : Nat) (u0 u1 u2 u3 u4 u5 u6 u7 : Value) : Upd B B w (put8 w B u0 u1 u2 u3 u4 u5 u6 u7) := by
  have u := fun (w : World) (i : Nat) (v : Value) => (show Upd B B w (w.setCell ⟨B, i, none⟩ v) from ⟨rfl, rfl, rfl, by simp, fun k hk h1 _ => heap_setCell_other w ⟨B, i, none⟩ k v h1⟩)
  exact ((((((((u _ _ _).trans (u _ _ _)).trans (u _ _ _)).trans (u _ _ _)).trans (u _ _ _)).trans (u _ _ _)).trans (u _ _ _)).trans (u _ _ _))
end Go.Proofs.YtpocihddecemfaaGreat

namespace Go.Proofs.YtpocihddecemfaaGreat
open Go.RowKit
set_option linter.unusedVariables false
set_option linter.unusedSimpArgs false
structure KM (w w' : World) (kd pc hd : Int) (A : Option Addr) (n cap : Nat) (it h li tr : Int) : Prop where
  bel : Below w.heap.size w w'
  b0 : w'.heap[w.heap.size]? = some (.cells #[.int .i64 kd, .int .i64 pc, .int .i64 hd, .slice A n cap, .int .u32 it, .int .u64 h, .int .u32 li, .int .i64 tr] 56 (0, 0))
  b1 : w'.heap[w.heap.size + 1]? = some (.cells #[.int .i64 0, .int .i64 0, .int .i64 0, .slice none 0 0, .int .u32 0, .int .u64 0, .int .u32 0, .int .i64 0] 56 (0, 0))
section
variable {w w' w2 : World} {kd pc hd : Int} {A : Option Addr} {n cap : Nat} {it h li tr : Int} {U : Value}
theorem KM.step (k : KM w w' kd pc hd A n cap it h li tr) (hb : Below w'.heap.size w' w2) : KM w w2 kd pc hd A n cap it h li tr :=
  ⟨below_step k.bel k.bel.size hb, (hb.block _ (Array.getElem?_eq_some_iff.1 k.b0).1).trans k.b0, (hb.block _ (Array.getElem?_eq_some_iff.1 k.b1).1).trans k.b1⟩
theorem KM.lt (k : KM w w' kd pc hd A n cap it h li tr) : w.heap.size + 1 < w'.heap.size := (Array.getElem?_eq_some_iff.1 k.b1).1
theorem KM.cells (k : KM w w' kd pc hd A n cap it h li tr) : w'.cell? ⟨w.heap.size, 0, none⟩ = some (.int .i64 kd) ∧ w'.cell? ⟨w.heap.size, 1, none⟩ = some (.int .i64 pc) ∧ w'.cell? ⟨w.heap.size, 2, none⟩ = some (.int .i64 hd) ∧ w'.cell? ⟨w.heap.size, 3, none⟩ = some (.slice A n cap) ∧ w'.cell? ⟨w.heap.size, 4, none⟩ = some (.int .u32 it) ∧ w'.cell? ⟨w.heap.size, 5, none⟩ = some (.int .u64 h) ∧ w'.cell? ⟨w.heap.size, 6, none⟩ = some (.int .u32 li) ∧ w'.cell? ⟨w.heap.size, 7, none⟩ = some (.int .i64 tr) := by
  have b0 := k.b0
  refine ⟨?_, ?_, ?_, ?_, ?_, ?_, ?_, ?_⟩ <;> simp [World.cell?, b0]
theorem KM.res (k : KM w w' kd pc hd A n cap it h li tr) : w'.cell? ⟨w.heap.size + 1, 0, none⟩ = some (.int .i64 0) ∧ w'.cell? ⟨w.heap.size + 1, 1, none⟩ = some (.int .i64 0) ∧ w'.cell? ⟨w.heap.size + 1, 2, none⟩ = some (.int .i64 0) ∧ w'.cell? ⟨w.heap.size + 1, 3, none⟩ = some (.slice none 0 0) ∧ w'.cell? ⟨w.heap.size + 1, 4, none⟩ = some (.int .u32 0) ∧ w'.cell? ⟨w.heap.size + 1, 5, none⟩ = some (.int .u64 0) ∧ w'.cell? ⟨w.heap.size + 1, 6, none⟩ = some (.int .u32 0) ∧ w'.cell? ⟨w.heap.size + 1, 7, none⟩ = some (.int .i64 0) := by
  have b1 := k.b1
  refine ⟨?_, ?_, ?_, ?_, ?_, ?_, ?_, ?_⟩ <;> simp [World.cell?, b1]
theorem KM.fro (k : KM w w' kd pc hd A n cap it h li tr) (j : Nat) : w'.frozen? ⟨w.heap.size + 1, j, none⟩ = false := frozen_of_row w' _ j _ _ k.b1
theorem KM.fro0 (k : KM w w' kd pc hd A n cap it h li tr) (j : Nat) : w'.frozen? ⟨w.heap.size, j, none⟩ = false := frozen_of_row w' _ j _ _ k.b0
theorem KM.new (w : World) (kd pc hd : Int) (A : Option Addr) (n cap : Nat) (it h li tr : Int) : KM w ((w.alloc (.cells #[.int .i64 kd, .int .i64 pc, .int .i64 hd, .slice A n cap, .int .u32 it, .int .u64 h, .int .u32 li, .int .i64 tr] 56)).alloc (.cells #[.int .i64 0, .int .i64 0, .int .i64 0, .slice none 0 0, .int .u32 0, .int .u64 0, .int .u32 0, .int .i64 0] 56)) kd pc hd A n cap it h li tr := by
  have e1 : (w.alloc (.cells #[.int .i64 kd, .int .i64 pc, .int .i64 hd, .slice A n cap, .int .u32 it, .int .u64 h, .int .u32 li, .int .i64 tr] 56)).heap.size = w.heap.size + 1 := by simp
  have h0 : (w.alloc (.cells #[.int .i64 kd, .int .i64 pc, .int .i64 hd, .slice A n cap, .int .u32 it, .int .u64 h, .int .u32 li, .int .i64 tr] 56)).heap[w.heap.size]? = some (.cells #[.int .i64 kd, .int .i64 pc, .int .i64 hd, .slice A n cap, .int .u32 it, .int .u64 h, .int .u32 li, .int .i64 tr] 56 (0, 0)) := by
    show (w.heap.push _)[w.heap.size]? = _
    exact Array.getElem?_push_size
  have h1 : ((w.alloc (.cells #[.int .i64 kd, .int .i64 pc, .int .i64 hd, .slice A n cap, .int .u32 it, .int .u64 h, .int .u32 li, .int .i64 tr] 56)).alloc (.cells #[.int .i64 0, .int .i64 0, .int .i64 0, .slice none 0 0, .int .u32 0, .int .u64 0, .int .u32 0, .int .i64 0] 56)).heap[(w.alloc (.cells #[.int .i64 kd, .int .i64 pc, .int .i64 hd, .slice A n cap, .int .u32 it, .int .u64 h, .int .u32 li, .int .i64 tr] 56)).heap.size]? = some (.cells #[.int .i64 0, .int .i64 0, .int .i64 0, .slice none 0 0, .int .u32 0, .int .u64 0, .int .u32 0, .int .i64 0] 56 (0, 0)) := by
    show ((w.alloc (.cells #[.int .i64 kd, .int .i64 pc, .int .i64 hd, .slice A n cap, .int .u32 it, .int .u64 h, .int .u32 li, .int .i64 tr] 56)).heap.push _)[(w.alloc (.cells #[.int .i64 kd, .int .i64 pc, .int .i64 hd, .slice A n cap, .int .u32 it, .int .u64 h, .int .u32 li, .int .i64 tr] 56)).heap.size]? = _
    exact Array.getElem?_push_size
  rw [e1] at h1
  have hb : Below (w.alloc (.cells #[.int .i64 kd, .int .i64 pc, .int .i64 hd, .slice A n cap, .int .u32 it, .int .u64 h, .int .u32 li, .int .i64 tr] 56)).heap.size (w.alloc (.cells #[.int .i64 kd, .int .i64 pc, .int .i64 hd, .slice A n cap, .int .u32 it, .int .u64 h, .int .u32 li, .int .i64 tr] 56)) ((w.alloc (.cells #[.int .i64 kd, .int .i64 pc, .int .i64 hd, .slice A n cap, .int .u32 it, .int .u64 h, .int .u32 li, .int .i64 tr] 56)).alloc (.cells #[.int .i64 0, .int .i64 0, .int .i64 0, .slice none 0 0, .int .u32 0, .int .u64 0, .int .u32 0, .int .i64 0] 56)) := below_alloc0 (Below.refl _ _) _
  exact ⟨below_two w _ _, (hb.block _ (by rw [e1]; omega)).trans h0, h1⟩
theorem KM.pcS (k : KM w w' kd pc hd A n cap it h li tr) (y : Int) : KM w (w'.setCell ⟨w.heap.size, 1, none⟩ (.int .i64 y)) kd y hd A n cap it h li tr := by
  refine ⟨k.bel.setCell (Nat.le_refl _) _, ?_, ?_⟩
  · exact (heap_setCell_same _ _ 1 _ 56 _ k.b0).trans (congrArg (fun c => some (Obj.cells c 56 (0, 0))) (show (#[.int .i64 kd, .int .i64 pc, .int .i64 hd, .slice A n cap, .int .u32 it, .int .u64 h, .int .u32 li, .int .i64 tr] : Array Value).setIfInBounds 1 (.int .i64 y) = #[.int .i64 kd, .int .i64 y, .int .i64 hd, .slice A n cap, .int .u32 it, .int .u64 h, .int .u32 li, .int .i64 tr] from rfl))
  · exact (heap_setCell_other w' ⟨w.heap.size, 1, none⟩ _ _ (Nat.succ_ne_self _)).trans k.b1
theorem KM.liS (k : KM w w' kd pc hd A n cap it h li tr) (y : Int) : KM w (w'.setCell ⟨w.heap.size, 6, none⟩ (.int .u32 y)) kd pc hd A n cap it h y tr := by
  refine ⟨k.bel.setCell (Nat.le_refl _) _, ?_, ?_⟩
  · exact (heap_setCell_same _ _ 6 _ 56 _ k.b0).trans (congrArg (fun c => some (Obj.cells c 56 (0, 0))) (show (#[.int .i64 kd, .int .i64 pc, .int .i64 hd, .slice A n cap, .int .u32 it, .int .u64 h, .int .u32 li, .int .i64 tr] : Array Value).setIfInBounds 6 (.int .u32 y) = #[.int .i64 kd, .int .i64 pc, .int .i64 hd, .slice A n cap, .int .u32 it, .int .u64 h, .int .u32 y, .int .i64 tr] from rfl))
  · exact (heap_setCell_other w' ⟨w.heap.size, 6, none⟩ _ _ (Nat.succ_ne_self _)).trans k.b1
end
section
variable {w w' : World} {kd pc hd : Int} {A : Option Addr} {n cap : Nat} {it h li tr : Int} {u0 u1 u2 u3 u4 u5 u6 u7 : Value}
theorem KM.putc (k : KM w w' kd pc hd A n cap it h li tr) : (put8 w' (w.heap.size + 1) u0 u1 u2 u3 u4 u5 u6 u7).cell? ⟨w.heap.size, 0, none⟩ = some (.int .i64 kd) ∧ (put8 w' (w.heap.size + 1) u0 u1 u2 u3 u4 u5 u6 u7).cell? ⟨w.heap.size, 1, none⟩ = some (.int .i64 pc) ∧ (put8 w' (w.heap.size + 1) u0 u1 u2 u3 u4 u5 u6 u7).cell? ⟨w.heap.size, 2, none⟩ = some (.int .i64 hd) ∧ (put8 w' (w.heap.size + 1) u0 u1 u2 u3 u4 u5 u6 u7).cell? ⟨w.heap.size, 3, none⟩ = some (.slice A n cap) ∧ (put8 w' (w.heap.size + 1) u0 u1 u2 u3 u4 u5 u6 u7).cell? ⟨w.heap.size, 4, none⟩ = some (.int .u32 it) ∧ (put8 w' (w.heap.size + 1) u0 u1 u2 u3 u4 u5 u6 u7).cell? ⟨w.heap.size, 5, none⟩ = some (.int .u64 h) ∧ (put8 w' (w.heap.size + 1) u0 u1 u2 u3 u4 u5 u6 u7).cell? ⟨w.heap.size, 6, none⟩ = some (.int .u32 li) ∧ (put8 w' (w.heap.size + 1) u0 u1 u2 u3 u4 u5 u6 u7).cell? ⟨w.heap.size, 7, none⟩ = some (.int .i64 tr) := by
  have u := put8_upd w' (w.heap.size + 1) u0 u1 u2 u3 u4 u5 u6 u7
  have b0 := (u.block _ (Array.getElem?_eq_some_iff.1 k.b0).1 (by omega) (by omega)).trans k.b0
  generalize (put8 w' (w.heap.size + 1) u0 u1 u2 u3 u4 u5 u6 u7) = W at b0 ⊢
  refine ⟨?_, ?_, ?_, ?_, ?_, ?_, ?_, ?_⟩ <;> simp [World.cell?, b0]
theorem KM.putr (k : KM w w' kd pc hd A n cap it h li tr) : (put8 w' (w.heap.size + 1) u0 u1 u2 u3 u4 u5 u6 u7).cell? ⟨w.heap.size + 1, 0, none⟩ = some (u0) ∧ (put8 w' (w.heap.size + 1) u0 u1 u2 u3 u4 u5 u6 u7).cell? ⟨w.heap.size + 1, 1, none⟩ = some (u1) ∧ (put8 w' (w.heap.size + 1) u0 u1 u2 u3 u4 u5 u6 u7).cell? ⟨w.heap.size + 1, 2, none⟩ = some (u2) ∧ (put8 w' (w.heap.size + 1) u0 u1 u2 u3 u4 u5 u6 u7).cell? ⟨w.heap.size + 1, 3, none⟩ = some (u3) ∧ (put8 w' (w.heap.size + 1) u0 u1 u2 u3 u4 u5 u6 u7).cell? ⟨w.heap.size + 1, 4, none⟩ = some (u4) ∧ (put8 w' (w.heap.size + 1) u0 u1 u2 u3 u4 u5 u6 u7).cell? ⟨w.heap.size + 1, 5, none⟩ = some (u5) ∧ (put8 w' (w.heap.size + 1) u0 u1 u2 u3 u4 u5 u6 u7).cell? ⟨w.heap.size + 1, 6, none⟩ = some (u6) ∧ (put8 w' (w.heap.size + 1) u0 u1 u2 u3 u4 u5 u6 u7).cell? ⟨w.heap.size + 1, 7, none⟩ = some (u7) := by
  have b := put8_same w' (w.heap.size + 1) 56 _ _ _ _ _ _ _ _ k.b1 u0 u1 u2 u3 u4 u5 u6 u7
  generalize (put8 w' (w.heap.size + 1) u0 u1 u2 u3 u4 u5 u6 u7) = W at b ⊢
  refine ⟨?_, ?_, ?_, ?_, ?_, ?_, ?_, ?_⟩ <;> simp [World.cell?, b]
theorem KM.putb (k : KM w w' kd pc hd A n cap it h li tr) : Below w.heap.size w (put8 w' (w.heap.size + 1) u0 u1 u2 u3 u4 u5 u6 u7) := below_upd k.bel (Nat.le_refl _) (put8_upd w' (w.heap.size + 1) u0 u1 u2 u3 u4 u5 u6 u7) (by omega) (by omega)
theorem KM.putd {P : Nat → Prop} {R : Option Addr} {L : List Int} (hr : ReadsW (fun b => P b ∧ b ≠ w.heap.size + 1) w' R L) : ReadsW P (put8 w' (w.heap.size + 1) u0 u1 u2 u3 u4 u5 u6 u7) R L :=
  hr.upd (put8_upd w' (w.heap.size + 1) u0 u1 u2 u3 u4 u5 u6 u7) fun b hb _ => ⟨hb.2, hb.2, hb.1⟩
end
end Go.Proofs.YtpocihddecemfaaGreat
