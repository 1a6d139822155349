/-  -/
import Derived.Test.YthoiaffeenhfgaaGreatJ9
import Derived.Test.YthoiaffeenhfgaaGreatJ1
import Derived.Test.YthoiaffeenhfgaaGreatJ4
import Derived.Test.YthoiaffeenhfgaaGreatJ13
import Derived.Test.YthoiaffeenhfgaaGreatJ7
import Derived.ScopeJumps
import Derived.WalkMore
import Derived.Deep.AppendLies
import Derived.Test.YthoiaffeenhfgaaGreatLayChk
import Derived.Test.YthoiaffeenhfgaaGreatLayNew
import Derived.Test.YthoiaffeenhfgaaGreatLayFirst
namespace Go.Proofs.YthoiaffeenhfgaaGreat
open Go.RowKit
set_option linter.unusedVariables false
set_option linter.unusedSimpArgs false
variable {w0 : World} {M S D Ab : Nat} {lv : Value} {m : Sm} {L : List Int} {c t : Int}
theorem eqin_fn (d f M : Nat) (w : World) : (Op.equalIn (d + 1) 104 (fnv f M) .nilFunc).run Tryz.prog w = .ok false w := by
  simp [Op.equalIn, run_underlying Tryz.underlying104]
theorem eqin_nil (d : Nat) (w : World) : (Op.equalIn (d + 1) 104 .nilFunc .nilFunc).run Tryz.prog w = .ok true w := by
  simp [Op.equalIn, run_underlying Tryz.underlying104]
@[go_sem] theorem eql_fn (f M : Nat) (w : World) : (binOp .eql 104 (fnv f M) .nilFunc).run Tryz.prog w = .ok (.bool false) w := by
  have h : (Op.equal 104 (fnv f M) .nilFunc).run Tryz.prog w = .ok false w := eqin_fn 9999 f M w
  simp only [binOp]
  simp [h]
@[go_sem] theorem eql_nil (w : World) : (binOp .eql 104 .nilFunc .nilFunc).run Tryz.prog w = .ok (.bool true) w := by
  have h : (Op.equal 104 .nilFunc .nilFunc).run Tryz.prog w = .ok true w := eqin_nil 9999 w
  simp only [binOp]
  simp [h]
def cst (m : Sm) (c : Int) : Int := if m.pc = 0 then c else c + 1
theorem Mi.nx {w : World} (h : Mi w0 w M S D lv Ab m L c) : w.cell? ⟨M, 3, none⟩ = some (nxt M m) := Mst.c3 h
theorem nfn_is (m : Sm) (P : Nat → Prop) (a0 : P 170) (a1 : P 183) (a2 : P 194) (a3 : P 115) (a4 : P 131) (a5 : P 148) : P (nfn m) := by
  unfold nfn
  repeat' split
  all_goals assumption
theorem enter_nfn (m : Sm) (a : Array Value) (w : World) : (callFunc (nfn m) a).run Tryz.prog w = .ok (.enter (nfn m) a) w := by
  refine nfn_is m (fun f => (callFunc f a).run Tryz.prog w = .ok (.enter f a) w) ?_ ?_ ?_ ?_ ?_ ?_ <;> simp [go_sem]
set_option maxHeartbeats 1000000 in
theorem step_on (w : World) (h : Mi w0 w M S D lv Ab m L c) (wm : Wm t m) (ww : WW L) (h0 : 0 ≤ c) (h1 : c ≤ 1000000000) (ht : t ≤ 1000000000) (hp : m.pc ≠ 0) :
    Calls Tryz.prog 209 #[ptr M, ptr S] w fun a w' => a = .returned (.bool (decide ((sstp L m).2.pc = 0))) ∧ Mi w0 w' M S D lv Ab (sstp L m).2 (sstp L m).1 (c + 1) := by
  have c4 := h.nx
  rw [nxt_at hp] at c4
  have HN := Lib.hid (next_any h hp wm ww h0 h1 ht)
  have hen := fun (a : Array Value) (w : World) => enter_nfn m a w
  generalize nfn m = f at c4 HN hen
  generalize sstp L m = z at HN ⊢
  obtain ⟨L', m'⟩ := z
  have HP := Lib.hid hp
  clear h hp wm ww
  by_cases hp' : m'.pc = 0
  · have e1 : decide (m'.pc = 0) = true := by simpa using hp'
    rw [e1]
    have HP' := Lib.hid hp'; clear hp' e1
    go_enter Tryz.func209, Tryz.ntmps209
    go_wp2_with (first
      | ((with_reducible refine HN.out.mono ?_); rintro r w1 ⟨rfl, hk⟩; have HK := Lib.hid hk; have d4 := hk.nx; rw [nxt_no HP'.out] at d4; clear hk)
      | fail)
    go_ret
    exact ⟨rfl, HK.out⟩
  · have e1 : decide (m'.pc = 0) = false := by simpa using hp'
    rw [e1]
    have HP' := Lib.hid hp'; clear hp' e1
    go_enter Tryz.func209, Tryz.ntmps209
    go_wp2_with (first
      | ((with_reducible refine HN.out.mono ?_); rintro r w1 ⟨rfl, hk⟩; have HK := Lib.hid hk; have d4 := hk.nx; rw [nxt_at HP'.out] at d4; clear hk)
      | fail)
    go_ret
    exact ⟨rfl, HK.out⟩
set_option maxHeartbeats 1000000 in
theorem step_off (w : World) (h : Mi w0 w M S D lv Ab m L c) (hp : m.pc = 0) :
    Calls Tryz.prog 209 #[ptr M, ptr S] w fun a w' => a = .returned (.bool true) ∧ w = w' := by
  have c4 := h.nx
  rw [nxt_no hp] at c4
  clear h hp
  go_enter Tryz.func209, Tryz.ntmps209
  go_wp2
  go_ret
  exact ⟨rfl, rfl⟩
theorem step_any (w : World) (h : Mi w0 w M S D lv Ab m L c) (wm : Wm t m) (ww : WW L) (h0 : 0 ≤ c) (h1 : c ≤ 1000000000) (ht : t ≤ 1000000000) :
    Calls Tryz.prog 209 #[ptr M, ptr S] w fun a w' => a = .returned (.bool (decide ((sstp L m).2.pc = 0))) ∧ Mi w0 w' M S D lv Ab (sstp L m).2 (sstp L m).1 (cst m c) := by
  by_cases hp : m.pc = 0
  · rw [sstp_no hp]
    refine (step_off w h hp).mono ?_
    rintro a w' ⟨rfl, rfl⟩
    exact ⟨by simp [hp], by simpa [cst, hp] using h⟩
  · refine (step_on w h wm ww h0 h1 ht hp).mono ?_
    rintro a w' ⟨rfl, hk⟩
    exact ⟨rfl, by simpa [cst, hp] using hk⟩
def MM (w : World) (M : Nat) (lv : Value) (m : Sm) : Prop := Mem w M lv m.k.head (fnv (ffn m) M) (nxt M m) m.h m.item m.link (sItem m) m.tries
theorem MM.lt {w : World} (h : MM w M lv m) : M < w.heap.size := (Array.getElem?_eq_some_iff.1 h).1
theorem MM.mi {w : World} (h : MM w M lv m) (hs : St w S D L c) (hl : Lk w lv Ab m.k.links) (n1 : M ≠ S) (n2 : M ≠ D) (b2 : Ab ≠ M ∧ Ab ≠ S ∧ Ab ≠ D) : Mi w w M S D lv Ab m L c :=
  ⟨h, hs, n1, n2, hl, b2, .refl _ _ _ _⟩
theorem Mi.mm {w : World} (h : Mi w0 w M S D lv Ab m L c) : MM w M lv m := h.mem
theorem Mi.st' {w : World} (h : Mi w0 w M S D lv Ab m L c) : St w S D L c := h.st
theorem Mi.u' {w : World} (h : Mi w0 w M S D lv Ab m L c) : U3 M S D w0 w := h.u
set_option maxHeartbeats 1000000 in
theorem item_any (w : World) (h : MM w M lv m) (wm : Wm t m) : Calls Tryz.prog 236 #[ptr M] w fun a w' => a = .returned (.int .i64 (sItem m)) ∧ w = w' := by
  have c7 : w.cell? ⟨M, 7, none⟩ = some (.int .u32 (sItem m)) := by unfold MM Mem at h; simp [World.cell?, h]
  have i0 : 0 ≤ sItem m ∧ sItem m ≤ 4294967295 := by have := wm.i; unfold sItem; split <;> omega
  obtain ⟨y, hy⟩ : ∃ y, y = sItem m := ⟨_, rfl⟩
  rw [← hy] at c7 i0 ⊢
  obtain ⟨y0, y1⟩ := i0
  clear h hy wm
  go_enter Tryz.func236, Tryz.ntmps236
  go_wp2
  go_ret
  exact ⟨rfl, rfl⟩
def NewM (w : World) (lv : Value) (m : Sm) (a : Ending) (w' : World) : Prop := ∃ M, a = .returned (ptr M) ∧ w.heap.size ≤ M ∧ MM w' M lv m ∧ Below w.heap.size w w'
set_option maxHeartbeats 1000000 in
theorem numbered_any (x : Int) (w : World) (hx : -9223372036854775808 ≤ x ∧ x ≤ 9223372036854775807) : Calls Tryz.prog 169 #[.int .i64 x] w fun a w' => a = .returned (.int .u32 (itemOf x)) ∧ w = w' := by
  by_cases h1 : x < 1
  · have e : itemOf x = 0 := by unfold itemOf; rw [if_pos (.inl h1)]
    rw [e]; clear e
    go_enter Tryz.func169, Tryz.ntmps169
    go_wp2
    go_ret
    exact ⟨rfl, rfl⟩
  · by_cases h2 : 4294967295 < x
    · have e : itemOf x = 0 := by unfold itemOf; rw [if_pos (.inr h2)]
      rw [e]; clear e
      go_enter Tryz.func169, Tryz.ntmps169
      go_wp2
      go_ret
      exact ⟨rfl, rfl⟩
    · have e : itemOf x = x := by unfold itemOf; rw [if_neg (by omega)]
      rw [e]; clear e
      go_enter Tryz.func169, Tryz.ntmps169
      go_wp2
      go_ret
      exact ⟨rfl, rfl⟩
theorem new_m (w : World) (k : Sk) (x : Int) (g kd : Nat) (hg : kd = 1 ∧ g = 170 ∨ kd = 2 ∧ g = 115) :
    NewM w lv ⟨kd, 1, k, x, 0, 0, 0⟩ (.returned (ptr w.heap.size)) (w.alloc (.cells #[.int .i64 k.head, lv, fnv g w.heap.size, fnv g w.heap.size, .int .u64 0, .int .u32 x, .int .u32 0, .int .u32 0, .int .i64 0] 142)) := by
  refine ⟨w.heap.size, rfl, Nat.le_refl _, ?_, below_alloc0 (Below.refl _ _) _⟩
  have e1 : nxt w.heap.size ⟨kd, 1, k, x, 0, 0, 0⟩ = fnv g w.heap.size := by rcases hg with ⟨rfl, rfl⟩ | ⟨rfl, rfl⟩ <;> simp [nxt, nfn]
  have e2 : ffn ⟨kd, 1, k, x, 0, 0, 0⟩ = g := by rcases hg with ⟨rfl, rfl⟩ | ⟨rfl, rfl⟩ <;> simp [ffn]
  unfold MM Mem
  rw [e1, e2]
  show (w.heap.push _)[w.heap.size]? = _
  simp [sItem]
set_option maxHeartbeats 1000000 in
theorem push_any {zs : List Int} (k : Sk) (x : Int) (w : World) (hl : Lk w lv Ab zs) (hx : -9223372036854775808 ≤ x ∧ x ≤ 9223372036854775807) : Calls Tryz.prog 151 #[.int .i64 k.head, lv, .int .i64 x] w (NewM w lv (mPush k x)) := by
  have hmf : ∀ (fn : Fn) (first cap : Array Value) (w : World), (Instr.makeFunc fn first cap).run Tryz.prog w = .ok (.func fn first cap) w := fun _ _ _ _ => rfl
  obtain ⟨c, _, _, hr⟩ := hl
  rcases hr with ⟨rfl, _⟩ | ⟨rfl, _⟩
  · go_enter Tryz.func151, Tryz.ntmps151
    go_wp2_with (first
      | (go_at_call 169; (with_reducible refine (numbered_any _ _ hx).mono ?_); rintro r w1 ⟨rfl, hw⟩; cases hw)
      | fail)
    go_ret
    exact new_m w k (itemOf x) 170 1 (.inl ⟨rfl, rfl⟩)
  · go_enter Tryz.func151, Tryz.ntmps151
    go_wp2_with (first
      | (go_at_call 169; (with_reducible refine (numbered_any _ _ hx).mono ?_); rintro r w1 ⟨rfl, hw⟩; cases hw)
      | fail)
    go_ret
    exact new_m w k (itemOf x) 170 1 (.inl ⟨rfl, rfl⟩)
set_option maxHeartbeats 1000000 in
theorem pop_any {zs : List Int} (k : Sk) (w : World) (hl : Lk w lv Ab zs) : Calls Tryz.prog 101 #[.int .i64 k.head, lv] w (NewM w lv (mPop k)) := by
  have hmf : ∀ (fn : Fn) (first cap : Array Value) (w : World), (Instr.makeFunc fn first cap).run Tryz.prog w = .ok (.func fn first cap) w := fun _ _ _ _ => rfl
  obtain ⟨c, _, _, hr⟩ := hl
  rcases hr with ⟨rfl, _⟩ | ⟨rfl, _⟩
  · go_enter Tryz.func101, Tryz.ntmps101
    go_wp2
    go_ret
    exact new_m w k 0 115 2 (.inr ⟨rfl, rfl⟩)
  · go_enter Tryz.func101, Tryz.ntmps101
    go_wp2
    go_ret
    exact new_m w k 0 115 2 (.inr ⟨rfl, rfl⟩)
theorem wm_push (k : Sk) (x : Int) : Wm 0 (mPush k x) := by
  refine ⟨.inl rfl, (by simp [mPush]), (by simp [mPush]), ?_, (by simp [mPush]), (by simp [mPush])⟩
  simp only [mPush]; unfold itemOf; split <;> omega
theorem wm_pop (k : Sk) : Wm 0 (mPop k) := ⟨.inr rfl, (by simp [mPop]), (by simp [mPop]), (by simp [mPop]), (by simp [mPop]), (by simp [mPop])⟩
end Go.Proofs.YthoiaffeenhfgaaGreat

namespace Go.Proofs.YthoiaffeenhfgaaGreat
open Go.RowKit
set_option linter.unusedVariables false
set_option linter.unusedSimpArgs false
variable {B S D Ab M : Nat} {lv : Value} {w0 w w' : World} {zs L : List Int} {k t : Int} {m : Sm}
theorem sstp_k (L : List Int) (m : Sm) : (sstp L m).2.k = m.k := by
  unfold sstp swapS
  repeat' (first | rfl | refine ite_ind (P := fun z : List Int × Sm => z.2.k = m.k) ?_ ?_)
attribute [local irreducible] sruns
end Go.Proofs.YthoiaffeenhfgaaGreat

namespace Go.Proofs.YthoiaffeenhfgaaGreat
open Go.RowKit
set_option linter.unusedVariables false
theorem info3 : (Tryz.prog.info? 3).map (fun i => (i.zero, i.size, i.bytes)) = some (some (.int .i64 0), 1, 8) := by kernel_rfl
def OwnI (k : IntKind) (e : TypeId) (B : Nat) (w0 wr : World) (v : Value) (l : List Int) : Prop :=
  wr.ownsRow B e 1 v l.length (l.map (Value.int k)) ∧ Below B w0 wr
theorem OwnI.nil {k : IntKind} {e : TypeId} {B : Nat} {w0 wr : World} (h : Below B w0 wr) : OwnI k e B w0 wr (.slice none 0 0) [] := ⟨World.ownsRow_nil _ _ _ _, h⟩
theorem OwnI.reads {k : IntKind} {e : TypeId} {B : Nat} {w0 wr : World} {v : Value} {l : List Int} (h : OwnI k e B w0 wr v l) : ∃ A cap, v = .slice A l.length cap ∧ Reads k wr A l ∧ (A = none → cap = 0) ∧ l.length ≤ cap ∧ cap ≤ maxLen := by
  obtain ⟨ho, hb⟩ := h
  have hlt := ho.lt
  have hcell := fun g (hg : v.ownBlock = some g) => ho.cells hg
  obtain ⟨hl, ⟨h1, h2⟩ | ⟨g, cap, cur, h1, h2, h3, h4, h5, h6, h7⟩⟩ := ho
  · exact ⟨none, 0, by rw [h1, h2], fun h => by omega, fun _ => rfl, by omega, by unfold maxLen; omega⟩
  · refine ⟨_, cap, h1, fun _ => ⟨g, 0, rfl, (hlt g (by rw [h1]; rfl)).2, fun i hi => ?_⟩, (fun e => by cases e), h4, h5⟩
    have c0 := hcell g (by rw [h1]; rfl) i _ (map_get k l i hi)
    rw [add_off] at c0
    exact c0
theorem OwnI.blk {k : IntKind} {e : TypeId} {B : Nat} {w0 wr : World} {v : Value} {l : List Int} (h : OwnI k e B w0 wr v l) : ∃ A cap, v = .slice A l.length cap ∧ (0 < l.length → ∃ b off, A = some ⟨b, off, none⟩ ∧ B ≤ b ∧ b < wr.heap.size ∧ ∀ j, j < l.length → wr.cell? ⟨b, off + j, none⟩ = some (.int k (l.getD j 0))) := by
  obtain ⟨ho, hb⟩ := h
  have hlt := ho.lt
  have hcell := fun g (hg : v.ownBlock = some g) => ho.cells hg
  obtain ⟨hl, ⟨h1, h2⟩ | ⟨g, cap, cur, h1, h2, h3, h4, h5, h6, h7⟩⟩ := ho
  · exact ⟨none, 0, by rw [h1, h2], fun h => by omega⟩
  · refine ⟨_, cap, h1, fun _ => ⟨g, 0, rfl, (hlt g (by rw [h1]; rfl)).1, (hlt g (by rw [h1]; rfl)).2, fun i hi => ?_⟩⟩
    have c0 := hcell g (by rw [h1]; rfl) i _ (map_get k l i hi)
    rw [add_off] at c0
    exact c0
end Go.Proofs.YthoiaffeenhfgaaGreat

namespace Go.Proofs.YthoiaffeenhfgaaGreat
open Go.RowKit
set_option linter.unusedVariables false
open Lay (plcc plc shOf packN nodesN OkC Cfg Norm firstV Rep lenL things)
abbrev CfgC (B : Nat) (c : Cfg) (w' : World) : Prop := w'.cell? ⟨B, 0, none⟩ = some (.int .i64 c.a) ∧ w'.cell? ⟨B, 1, none⟩ = some (.int .i64 c.b) ∧ w'.cell? ⟨B, 2, none⟩ = some (.int .i64 c.c) ∧ w'.cell? ⟨B, 3, none⟩ = some (.int .i64 c.d) ∧ w'.cell? ⟨B, 4, none⟩ = some (.int .i64 c.e) ∧ w'.cell? ⟨B, 5, none⟩ = some (.int .i64 c.mr) ∧ w'.cell? ⟨B, 6, none⟩ = some (.int .i64 c.mu) ∧ w'.cell? ⟨B, 7, none⟩ = some (.int .i64 c.dq) ∧ w'.cell? ⟨B, 8, none⟩ = some (.int .i64 c.ch) ∧ w'.cell? ⟨B, 9, none⟩ = some (.int .i64 c.bf) ∧ w'.cell? ⟨B, 10, none⟩ = some (.int .i64 c.rt) ∧ w'.cell? ⟨B, 11, none⟩ = some (.int .i64 c.sw)
theorem kc_cells {w : World} {B : Nat} {c : Cfg} {w' : World} (h : Lay.KC w B c w') : CfgC B c w' := ⟨h.c0, h.c1, h.c2, h.c3, h.c4, h.c5, h.c6, h.c7, h.c8, h.c9, h.c10, h.c11⟩
end Go.Proofs.YthoiaffeenhfgaaGreat

namespace Go.Proofs.YthoiaffeenhfgaaGreat
open Go.RowKit
set_option linter.unusedVariables false
open Lay (plcc plc shOf packN nodesN OkC Cfg Norm firstV Rep lenL things cnt sumTo cfgO)
def SmallP (c : Cfg) (w : World) (e : Ending) (w' : World) : Prop := ∃ b, e = .returned (.bool b) ∧ (b = true → OkC c ∧ nodesN c ≤ 12) ∧ Below w.heap.size w w'
set_option maxHeartbeats 4000000 in
theorem small_any (c : Cfg) (w : World) : Calls Tryz.prog 8 #[Lay.cfgV c] w (SmallP c w) := by
  obtain ⟨w0, hw0⟩ : ∃ w0 : World, w0 = w.alloc (cfgO c 24) := ⟨_, rfl⟩
  have hc0 : ∀ K, K < 5 → w0.cell? ⟨w.heap.size, K, none⟩ = some (.int .i64 (cnt c.a c.b c.c c.d c.e K)) := fun K hK => by rw [hw0]; exact Lay.cfg_cell c 24 w K hK
  have hbe : Below w.heap.size w w0 := by rw [hw0]; exact below_alloc0 (Below.refl _ _) _
  have hkc : Lay.KC w w.heap.size c w0 := by rw [hw0]; exact Lay.KC.start c _ w w (Below.refl _ _)
  have HK := Lib.hid hkc
  have HW := Lib.hid hw0
  have HC := Lib.hid hc0
  have HBE := Lib.hid hbe
  have hs5 := Lay.sum5 c
  have HS5 := Lib.hid hs5
  clear hw0 hc0 hbe hkc hs5
  go_enter Tryz.func8, Tryz.ntmps8
  go_wp2
  rw [← HW.out]
  go_loopw [3, 4] (fun s i wr => ∃ (K : Nat), K ≤ 5 ∧ i = .int .i64 K ∧ s = .int .i64 (sumTo c K) ∧ 0 ≤ sumTo c K ∧ sumTo c K ≤ 6 * K ∧ wr = w0) (fun _ i _ => 5 - (intOf i).toNat)
  case atStart => exact ⟨0, by omega, rfl, rfl, by simp [sumTo], by simp [sumTo], rfl⟩
  case round =>
    obtain ⟨K, hK, rfl, rfl, h0, h6, rfl⟩ := hrel
    by_cases hlt : K < 5
    · have hcell := HC.out K hlt
      obtain ⟨C, hC⟩ : ∃ C, C = cnt c.a c.b c.c c.d c.e K := ⟨_, rfl⟩
      rw [← hC] at hcell
      have hst : sumTo c (K + 1) = sumTo c K + C := by rw [hC]; rfl
      obtain ⟨T, hT⟩ : ∃ T, T = sumTo c K := ⟨_, rfl⟩
      rw [← hT] at h0 h6 hst ⊢
      have HST := Lib.hid hst
      clear hC hst hT
      by_cases hlo : C < 0
      · go_wp2_with (fail)
        go_ret
        exact ⟨false, rfl, (fun h => by cases h), HBE.out⟩
      · by_cases hhi : 6 < C
        · go_wp2_with (fail)
          go_ret
          exact ⟨false, rfl, (fun h => by cases h), HBE.out⟩
        · go_wp2_with (fail)
          go_roundw
          case rel => exact ⟨K + 1, by omega, by go_num, by rw [HST.out], by rw [HST.out]; omega, by rw [HST.out]; omega, trivial⟩
          case measure => simp [intOf]; omega
    · obtain rfl : K = 5 := by omega
      clear hlt hK
      obtain ⟨q0, q1, q2, q3, q4, q5, q6, q7, q8, q9, q10, q11⟩ := kc_cells HK.out
      obtain ⟨T, hT⟩ : ∃ T, T = sumTo c 5 := ⟨_, rfl⟩
      have HTT := Lib.hid hT
      rw [← hT] at h0 h6 ⊢
      clear hT
      by_cases h12 : T ≤ 12
      · have d1 : decide (T ≤ 12) = true := by simpa using h12
        by_cases hok : OkC c
        · have HOK := Lib.hid hok; clear hok
          go_wp2_with (first
            | (go_at_call 39; (with_reducible refine (Lay.model_any c _).mono ?_); rintro r w2 ⟨rfl, hb2⟩; have HB := Lib.hid (HBE.out.trans (hb2.mono HBE.out.size)); clear hb2)
            | (go_at_call 38; (with_reducible refine (Lay.rcheck_any c _).mono ?_); rintro r w3 ⟨x, rfl, hx, hb3⟩; obtain rfl := hx.1 HOK.out; have HB := Lib.hid (below_step HB.out HB.out.size hb3); clear hb3 hx)
            | fail)
          go_ret
          exact ⟨true, rfl, fun _ => ⟨HOK.out, by have := HTT.out; have := HS5.out; show c.a + c.b + c.c + c.d + c.e ≤ 12; omega⟩, HB.out⟩
        · have HOK := Lib.hid hok; clear hok
          go_wp2_with (first
            | (go_at_call 39; (with_reducible refine (Lay.model_any c _).mono ?_); rintro r w2 ⟨rfl, hb2⟩; have HB := Lib.hid (HBE.out.trans (hb2.mono HBE.out.size)); clear hb2)
            | (go_at_call 38; (with_reducible refine (Lay.rcheck_any c _).mono ?_); rintro r w3 ⟨x, rfl, hx, hb3⟩; obtain rfl := hx.2 HOK.out; have HB := Lib.hid (below_step HB.out HB.out.size hb3); clear hb3 hx)
            | fail)
          go_ret
          exact ⟨false, rfl, (fun h => by cases h), HB.out⟩
      · have d1 : decide (T ≤ 12) = false := by simpa using h12
        go_wp2_with (fail)
        go_ret
        exact ⟨false, rfl, (fun h => by cases h), HBE.out⟩
end Go.Proofs.YthoiaffeenhfgaaGreat
