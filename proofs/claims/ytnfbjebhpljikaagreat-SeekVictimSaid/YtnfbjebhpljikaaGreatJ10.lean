/- A machine's step, and what it tells, walked. A store of the call's own with links, and machines over it. Rows of integers of the call's own. A stack's things in a list of words, walked. The document's own memory (a list, of which each access makes another one), walked. The document's own places and walk. -/
import Derived.Test.YtnfbjebhpljikaaGreatJ9
import Derived.Test.YtnfbjebhpljikaaGreatJ3
import Derived.ScopeJumps
import Derived.WalkMore
import Derived.Test.YtnfbjebhpljikaaGreatJ1
namespace Go.Proofs.YtnfbjebhpljikaaGreat
open Go.RowKit
set_option linter.unusedVariables false
set_option linter.unusedSimpArgs false
variable {w0 : World} {M S D Ab : Nat} {lv : Value} {m : Sm} {L : List Int} {c t : Int}

theorem eqin_fn (d f M : Nat) (w : World) : (Op.equalIn (d + 1) 73 (fnv f M) .nilFunc).run Tryz.prog w = .ok false w := by
  simp [Op.equalIn, run_underlying Tryz.underlying73]
theorem eqin_nil (d : Nat) (w : World) : (Op.equalIn (d + 1) 73 .nilFunc .nilFunc).run Tryz.prog w = .ok true w := by
  simp [Op.equalIn, run_underlying Tryz.underlying73]
@[go_sem] theorem eql_fn (f M : Nat) (w : World) : (binOp .eql 73 (fnv f M) .nilFunc).run Tryz.prog w = .ok (.bool false) w := by
  have h : (Op.equal 73 (fnv f M) .nilFunc).run Tryz.prog w = .ok false w := eqin_fn 9999 f M w
  simp only [binOp]
  simp [h]
@[go_sem] theorem eql_nil (w : World) : (binOp .eql 73 .nilFunc .nilFunc).run Tryz.prog w = .ok (.bool true) w := by
  have h : (Op.equal 73 .nilFunc .nilFunc).run Tryz.prog w = .ok true w := eqin_nil 9999 w
  simp only [binOp]
  simp [h]

def cst (m : Sm) (c : Int) : Int := if m.pc = 0 then c else c + 1
theorem cst_le (m : Sm) (c : Int) : c ≤ cst m c ∧ cst m c ≤ c + 1 := by unfold cst; split <;> omega
theorem Mi.nx {w : World} (h : Mi w0 w M S D lv Ab m L c) : w.cell? ⟨M, 3, none⟩ = some (nxt M m) := Mst.c3 h

theorem nfn_is (m : Sm) (P : Nat → Prop) (a0 : P 128) (a1 : P 140) (a2 : P 143) (a3 : P 80) (a4 : P 95) (a5 : P 109) : P (nfn m) := by
  unfold nfn
  repeat' split
  all_goals assumption
theorem enter_nfn (m : Sm) (a : Array Value) (w : World) : (callFunc (nfn m) a).run Tryz.prog w = .ok (.enter (nfn m) a) w := by
  refine nfn_is m (fun f => (callFunc f a).run Tryz.prog w = .ok (.enter f a) w) ?_ ?_ ?_ ?_ ?_ ?_ <;> simp [go_sem]

set_option maxHeartbeats 1000000 in
theorem step_on (w : World) (h : Mi w0 w M S D lv Ab m L c) (wm : Wm t m) (ww : WW L) (h0 : 0 ≤ c) (h1 : c ≤ 1000000000) (ht : t ≤ 1000000000) (hp : m.pc ≠ 0) :
    Calls Tryz.prog 166 #[ptr M, ptr S] w fun a w' => a = .returned (.bool (decide ((sstp L m).2.pc = 0))) ∧ Mi w0 w' M S D lv Ab (sstp L m).2 (sstp L m).1 (c + 1) := by
  have c4 := h.nx
  rw [nxt_at hp] at c4
  have HN := Lib.hid (next_any h hp wm ww h0 h1 ht)
  have hen := fun (a : Array Value) (w : World) => enter_nfn m a w
  generalize nfn m = f at c4 HN hen
  generalize sstp L m = z at HN ⊢
  obtain ⟨L', m'⟩ := z
  have HP := Lib.hid hp
  clear h hp wm ww
  by_cases hp' : m'.pc = 0
  · have e1 : decide (m'.pc = 0) = true := by simpa using hp'
    rw [e1]
    have HP' := Lib.hid hp'; clear hp' e1
    go_enter Tryz.func166, Tryz.ntmps166
    go_wp2_with (first
      | ((with_reducible refine HN.out.mono ?_); rintro r w1 ⟨rfl, hk⟩; have HK := Lib.hid hk; have d4 := hk.nx; rw [nxt_no HP'.out] at d4; clear hk)
      | fail)
    go_ret
    exact ⟨rfl, HK.out⟩
  · have e1 : decide (m'.pc = 0) = false := by simpa using hp'
    rw [e1]
    have HP' := Lib.hid hp'; clear hp' e1
    go_enter Tryz.func166, Tryz.ntmps166
    go_wp2_with (first
      | ((with_reducible refine HN.out.mono ?_); rintro r w1 ⟨rfl, hk⟩; have HK := Lib.hid hk; have d4 := hk.nx; rw [nxt_at HP'.out] at d4; clear hk)
      | fail)
    go_ret
    exact ⟨rfl, HK.out⟩

set_option maxHeartbeats 1000000 in
theorem step_off (w : World) (h : Mi w0 w M S D lv Ab m L c) (hp : m.pc = 0) :
    Calls Tryz.prog 166 #[ptr M, ptr S] w fun a w' => a = .returned (.bool true) ∧ w = w' := by
  have c4 := h.nx
  rw [nxt_no hp] at c4
  clear h hp
  go_enter Tryz.func166, Tryz.ntmps166
  go_wp2
  go_ret
  exact ⟨rfl, rfl⟩
/-- A step. -/
theorem step_any (w : World) (h : Mi w0 w M S D lv Ab m L c) (wm : Wm t m) (ww : WW L) (h0 : 0 ≤ c) (h1 : c ≤ 1000000000) (ht : t ≤ 1000000000) :
    Calls Tryz.prog 166 #[ptr M, ptr S] w fun a w' => a = .returned (.bool (decide ((sstp L m).2.pc = 0))) ∧ Mi w0 w' M S D lv Ab (sstp L m).2 (sstp L m).1 (cst m c) := by
  by_cases hp : m.pc = 0
  · rw [sstp_no hp]
    refine (step_off w h hp).mono ?_
    rintro a w' ⟨rfl, rfl⟩
    exact ⟨by simp [hp], by simpa [cst, hp] using h⟩
  · refine (step_on w h wm ww h0 h1 ht hp).mono ?_
    rintro a w' ⟨rfl, hk⟩
    exact ⟨rfl, by simpa [cst, hp] using hk⟩
set_option maxHeartbeats 1000000 in
theorem step_nil (v : Value) (w : World) : Calls Tryz.prog 166 #[.pointer none, v] w fun a w' => a = .returned (.bool true) ∧ w = w' := by
  go_enter Tryz.func166, Tryz.ntmps166
  go_wp2
  go_ret
  exact ⟨rfl, rfl⟩

/-- A machine in memory, by itself. -/
def MM (w : World) (M : Nat) (lv : Value) (m : Sm) : Prop := Mem w M lv m.k.head (fnv (ffn m) M) (nxt M m) m.h m.item m.link (sItem m) m.tries
theorem MM.lt {w : World} (h : MM w M lv m) : M < w.heap.size := (Array.getElem?_eq_some_iff.1 h).1
theorem MM.u3 {w w' : World} {M' : Nat} (h : MM w M lv m) (u : U3 M' S D w w') (n0 : M ≠ M') (n1 : M ≠ S) (n2 : M ≠ D) : MM w' M lv m :=
  (u.block M h.lt n0 n1 n2).trans h
theorem MM.below {w w' : World} (h : MM w M lv m) (hb : Below w.heap.size w w') : MM w' M lv m := (hb.block M h.lt).trans h
theorem MM.mi {w : World} (h : MM w M lv m) (hs : St w S D L c) (hl : Lk w lv Ab m.k.links) (n1 : M ≠ S) (n2 : M ≠ D) (b2 : Ab ≠ M ∧ Ab ≠ S ∧ Ab ≠ D) : Mi w w M S D lv Ab m L c :=
  ⟨h, hs, n1, n2, hl, b2, .refl _ _ _ _⟩
theorem Mi.mm {w : World} (h : Mi w0 w M S D lv Ab m L c) : MM w M lv m := h.mem
theorem Mi.st' {w : World} (h : Mi w0 w M S D lv Ab m L c) : St w S D L c := h.st
theorem Mi.u' {w : World} (h : Mi w0 w M S D lv Ab m L c) : U3 M S D w0 w := h.u
theorem Mi.lk' {w : World} (h : Mi w0 w M S D lv Ab m L c) : Lk w lv Ab m.k.links := h.lk

set_option maxHeartbeats 1000000 in
theorem item_any (w : World) (h : MM w M lv m) (wm : Wm t m) : Calls Tryz.prog 165 #[ptr M] w fun a w' => a = .returned (.int .i64 (sItem m)) ∧ w = w' := by
  have c7 : w.cell? ⟨M, 7, none⟩ = some (.int .u32 (sItem m)) := by unfold MM Mem at h; simp [World.cell?, h]
  have i0 : 0 ≤ sItem m ∧ sItem m ≤ 4294967295 := by have := wm.i; unfold sItem; split <;> omega
  obtain ⟨y, hy⟩ : ∃ y, y = sItem m := ⟨_, rfl⟩
  rw [← hy] at c7 i0 ⊢
  obtain ⟨y0, y1⟩ := i0
  clear h hy wm
  go_enter Tryz.func165, Tryz.ntmps165
  go_wp2
  go_ret
  exact ⟨rfl, rfl⟩
set_option maxHeartbeats 1000000 in
theorem item_nil (w : World) : Calls Tryz.prog 165 #[.pointer none] w fun a w' => a = .returned (.int .i64 0) ∧ w = w' := by
  go_enter Tryz.func165, Tryz.ntmps165
  go_wp2
  go_ret
  exact ⟨rfl, rfl⟩
/-- A machine in new memory. -/
def NewM (w : World) (lv : Value) (m : Sm) (a : Ending) (w' : World) : Prop := ∃ M, a = .returned (ptr M) ∧ w.heap.size ≤ M ∧ MM w' M lv m ∧ Below w.heap.size w w'

set_option maxHeartbeats 1000000 in
theorem numbered_any (x : Int) (w : World) (hx : -9223372036854775808 ≤ x ∧ x ≤ 9223372036854775807) : Calls Tryz.prog 127 #[.int .i64 x] w fun a w' => a = .returned (.int .u32 (itemOf x)) ∧ w = w' := by
  by_cases h1 : x < 1
  · have e : itemOf x = 0 := by unfold itemOf; rw [if_pos (.inl h1)]
    rw [e]; clear e
    go_enter Tryz.func127, Tryz.ntmps127
    go_wp2
    go_ret
    exact ⟨rfl, rfl⟩
  · by_cases h2 : 4294967295 < x
    · have e : itemOf x = 0 := by unfold itemOf; rw [if_pos (.inr h2)]
      rw [e]; clear e
      go_enter Tryz.func127, Tryz.ntmps127
      go_wp2
      go_ret
      exact ⟨rfl, rfl⟩
    · have e : itemOf x = x := by unfold itemOf; rw [if_neg (by omega)]
      rw [e]; clear e
      go_enter Tryz.func127, Tryz.ntmps127
      go_wp2
      go_ret
      exact ⟨rfl, rfl⟩
theorem new_m (w : World) (k : Sk) (x : Int) (g kd : Nat) (hg : kd = 1 ∧ g = 128 ∨ kd = 2 ∧ g = 80) :
    NewM w lv ⟨kd, 1, k, x, 0, 0, 0⟩ (.returned (ptr w.heap.size)) (w.alloc (.cells #[.int .i64 k.head, lv, fnv g w.heap.size, fnv g w.heap.size, .int .u64 0, .int .u32 x, .int .u32 0, .int .u32 0, .int .i64 0] 108)) := by
  refine ⟨w.heap.size, rfl, Nat.le_refl _, ?_, below_alloc0 (Below.refl _ _) _⟩
  have e1 : nxt w.heap.size ⟨kd, 1, k, x, 0, 0, 0⟩ = fnv g w.heap.size := by rcases hg with ⟨rfl, rfl⟩ | ⟨rfl, rfl⟩ <;> simp [nxt, nfn]
  have e2 : ffn ⟨kd, 1, k, x, 0, 0, 0⟩ = g := by rcases hg with ⟨rfl, rfl⟩ | ⟨rfl, rfl⟩ <;> simp [ffn]
  unfold MM Mem
  rw [e1, e2]
  show (w.heap.push _)[w.heap.size]? = _
  simp [sItem]
set_option maxHeartbeats 1000000 in
theorem push_any {zs : List Int} (k : Sk) (x : Int) (w : World) (hl : Lk w lv Ab zs) (hx : -9223372036854775808 ≤ x ∧ x ≤ 9223372036854775807) : Calls Tryz.prog 113 #[.int .i64 k.head, lv, .int .i64 x] w (NewM w lv (mPush k x)) := by
  have hmf : ∀ (fn : Fn) (first cap : Array Value) (w : World), (Instr.makeFunc fn first cap).run Tryz.prog w = .ok (.func fn first cap) w := fun _ _ _ _ => rfl
  obtain ⟨c, _, _, hr⟩ := hl
  rcases hr with ⟨rfl, _⟩ | ⟨rfl, _⟩
  · go_enter Tryz.func113, Tryz.ntmps113
    go_wp2_with (first
      | (go_at_call 127; (with_reducible refine (numbered_any _ _ hx).mono ?_); rintro r w1 ⟨rfl, hw⟩; cases hw)
      | fail)
    go_ret
    exact new_m w k (itemOf x) 128 1 (.inl ⟨rfl, rfl⟩)
  · go_enter Tryz.func113, Tryz.ntmps113
    go_wp2_with (first
      | (go_at_call 127; (with_reducible refine (numbered_any _ _ hx).mono ?_); rintro r w1 ⟨rfl, hw⟩; cases hw)
      | fail)
    go_ret
    exact new_m w k (itemOf x) 128 1 (.inl ⟨rfl, rfl⟩)
set_option maxHeartbeats 1000000 in
theorem pop_any {zs : List Int} (k : Sk) (w : World) (hl : Lk w lv Ab zs) : Calls Tryz.prog 61 #[.int .i64 k.head, lv] w (NewM w lv (mPop k)) := by
  have hmf : ∀ (fn : Fn) (first cap : Array Value) (w : World), (Instr.makeFunc fn first cap).run Tryz.prog w = .ok (.func fn first cap) w := fun _ _ _ _ => rfl
  obtain ⟨c, _, _, hr⟩ := hl
  rcases hr with ⟨rfl, _⟩ | ⟨rfl, _⟩
  · go_enter Tryz.func61, Tryz.ntmps61
    go_wp2
    go_ret
    exact new_m w k 0 80 2 (.inr ⟨rfl, rfl⟩)
  · go_enter Tryz.func61, Tryz.ntmps61
    go_wp2
    go_ret
    exact new_m w k 0 80 2 (.inr ⟨rfl, rfl⟩)
theorem wm_push (k : Sk) (x : Int) : Wm 0 (mPush k x) := by
  refine ⟨.inl rfl, (by simp [mPush]), (by simp [mPush]), ?_, (by simp [mPush]), (by simp [mPush])⟩
  simp only [mPush]; unfold itemOf; split <;> omega
theorem wm_pop (k : Sk) : Wm 0 (mPop k) := ⟨.inr rfl, (by simp [mPop]), (by simp [mPop]), (by simp [mPop]), (by simp [mPop]), (by simp [mPop])⟩
end Go.Proofs.YtnfbjebhpljikaaGreat

namespace Go.Proofs.YtnfbjebhpljikaaGreat
open Go.RowKit
set_option linter.unusedVariables false
set_option linter.unusedSimpArgs false
variable {B S D Ab M : Nat} {lv : Value} {w0 w w' : World} {zs L : List Int} {k t : Int} {m : Sm}

theorem sstp_k (L : List Int) (m : Sm) : (sstp L m).2.k = m.k := by
  unfold sstp swapS
  repeat' (first | rfl | refine ite_ind (P := fun z : List Int × Sm => z.2.k = m.k) ?_ ?_)

/-- A store of the call's own; k: how many accesses there were at most. -/
structure Ok (B S D : Nat) (lv : Value) (Ab : Nat) (w0 w : World) (zs L : List Int) (k : Int) : Prop where
  own : ∃ c, 0 ≤ c ∧ c ≤ k ∧ Own B S D w0 w L c
  lk : Lk w lv Ab zs
  b2 : Ab ≠ S ∧ Ab ≠ D
  ww : WW L
/-- A block apart from it. -/
def Ap (B S D Ab M : Nat) : Prop := B ≤ M ∧ M ≠ S ∧ M ≠ D ∧ M ≠ Ab
theorem Ok.bel (h : Ok B S D lv Ab w0 w zs L k) : Below B w0 w := by obtain ⟨c, _, _, h⟩ := h.own; exact h.bel
theorem Ok.ltS (h : Ok B S D lv Ab w0 w zs L k) : S < w.heap.size ∧ D < w.heap.size := by obtain ⟨c, _, _, h⟩ := h.own; exact ⟨h.st.ltS, h.st.row.lt⟩
theorem Ok.lo (h : Ok B S D lv Ab w0 w zs L k) : B ≤ S ∧ B ≤ D ∧ B ≤ w0.heap.size := by obtain ⟨c, _, _, h⟩ := h.own; exact ⟨h.1, h.2.1, h.2.2.1⟩
theorem Ok.new (h : Ok B S D lv Ab w0 w zs L k) (hM : w.heap.size ≤ M) : Ap B S D Ab M := by
  have := h.ltS; have := h.lk.lt; have := h.lo; have := h.bel.size
  exact ⟨by omega, by omega, by omega, by omega⟩
theorem Ok.step (h : Ok B S D lv Ab w0 w zs L k) (hb : Below w.heap.size w w') : Ok B S D lv Ab w0 w' zs L k := by
  obtain ⟨c, h0, h1, o⟩ := h.own
  exact ⟨⟨c, h0, h1, o.step hb⟩, h.lk.below hb, h.b2, h.ww⟩
theorem Ok.more (h : Ok B S D lv Ab w0 w zs L k) {k' : Int} (hk : k ≤ k') : Ok B S D lv Ab w0 w zs L k' := by
  obtain ⟨c, h0, h1, o⟩ := h.own
  exact ⟨⟨c, h0, by omega, o⟩, h.lk, h.b2, h.ww⟩
/-- Another block changes. -/
theorem Ok.upd (h : Ok B S D lv Ab w0 w zs L k) {b : Nat} (u : Upd b b w w') (a : Ap B S D Ab b) : Ok B S D lv Ab w0 w' zs L k := by
  obtain ⟨c, h0, h1, o⟩ := h.own
  obtain ⟨a0, a1, a2, a4⟩ := a
  refine ⟨⟨c, h0, h1, o.1, o.2.1, o.2.2.1, o.st.upd u (Ne.symm a1) (Ne.symm a1) (Ne.symm a2) (Ne.symm a2), below_upd o.bel o.2.2.1 u a0 a0⟩, ?_, h.b2, h.ww⟩
  exact h.lk.keep u.size (u.block Ab h.lk.lt (Ne.symm a4) (Ne.symm a4))
theorem Ok.mi (h : Ok B S D lv Ab w0 w zs L k) (hm : MM w M lv m) (a : Ap B S D Ab M) (hz : m.k.links = zs) : ∃ c, 0 ≤ c ∧ c ≤ k ∧ Mi w w M S D lv Ab m L c := by
  obtain ⟨c, h0, h1, o⟩ := h.own
  obtain ⟨a0, a1, a2, a4⟩ := a
  exact ⟨c, h0, h1, hm.mi o.st (by rw [hz]; exact h.lk) a1 a2 ⟨Ne.symm a4, h.b2.1, h.b2.2⟩⟩
theorem Ok.of_mi (h : Ok B S D lv Ab w0 w zs L k) (a : Ap B S D Ab M) {L' : List Int} {c' k' : Int} {m' : Sm} (hz : m'.k.links = zs) (hm : Mi w w' M S D lv Ab m' L' c') (h0 : 0 ≤ c') (h1 : c' ≤ k') (ww : WW L') : Ok B S D lv Ab w0 w' zs L' k' := by
  obtain ⟨c, _, _, o⟩ := h.own
  have l := hm.lk'
  rw [hz] at l
  exact ⟨⟨c', h0, h1, o.1, o.2.1, o.2.2.1, hm.st', below_u3 o.bel o.2.2.1 hm.u' a.1 o.1 o.2.1⟩, l, h.b2, ww⟩

/-- A machine goes on by a step; others stay as they are. -/
theorem step_ok (h : Ok B S D lv Ab w0 w zs L k) (hm : MM w M lv m) (a : Ap B S D Ab M) (hz : m.k.links = zs) (wm : Wm t m) (hk : k ≤ 900000000) (ht : t ≤ 900000000) :
    Calls Tryz.prog 166 #[ptr M, ptr S] w fun e w' => e = .returned (.bool (decide ((sstp L m).2.pc = 0))) ∧ Ok B S D lv Ab w0 w' zs (sstp L m).1 (k + 1) ∧ MM w' M lv (sstp L m).2 ∧ U3 M S D w w' := by
  obtain ⟨c, h0, h1, mi⟩ := h.mi hm a hz
  refine (step_any w mi wm h.ww h0 (by omega) (by omega)).mono ?_
  rintro e w1 ⟨rfl, mi'⟩
  have := cst_le m c
  exact ⟨rfl, h.of_mi a (by rw [sstp_k]; exact hz) mi' (k' := k + 1) (by omega) (by omega) (h.ww.step wm), mi'.mm, mi'.u'⟩
theorem load_ok (h : Ok B S D lv Ab w0 w zs L k) (at' : Int) (hk : k ≤ 900000000) :
    Calls Tryz.prog 99 #[ptr S, .int .i64 at'] w fun a w' => a = .returned (.int .u64 (ldq L at')) ∧ Ok B S D lv Ab w0 w' zs L (k + 1) ∧ Upd S D w w' := by
  obtain ⟨c, h0, h1, o⟩ := h.own
  refine (load_any at' w o.st h0 (by omega)).mono ?_
  rintro a w1 ⟨rfl, l⟩
  exact ⟨by rw [ldv_eq], ⟨⟨c + 1, by omega, by omega, o.left l⟩, h.lk.u3 (M := S) (.of_upd l.2) ⟨h.b2.1, h.b2⟩, h.b2, h.ww⟩, l.2⟩
theorem put_ok (h : Ok B S D lv Ab w0 w zs L k) (at' v : Int) (hv : 0 ≤ v ∧ v ≤ 18446744073709551615) (hk : k ≤ 900000000) :
    Calls Tryz.prog 96 #[ptr S, .int .i64 at', .int .u64 v] w fun a w' => a = .returned (.tuple #[]) ∧ Ok B S D lv Ab w0 w' zs (ptq L at' v) (k + 1) ∧ Upd S D w w' := by
  obtain ⟨c, h0, h1, o⟩ := h.own
  refine (put_any at' v w o.st h0 (by omega)).mono ?_
  rintro a w1 ⟨rfl, l⟩
  rw [ptv_eq] at l
  exact ⟨rfl, ⟨⟨c + 1, by omega, by omega, o.left l⟩, h.lk.u3 (M := S) (.of_upd l.2) ⟨h.b2.1, h.b2⟩, h.b2, h.ww.put _ hv⟩, l.2⟩
/-- The store is new; the links are elder. -/
theorem Ok.start {L : List Int} {a : Ending} (hb : Below B w0 w) (hB : B ≤ w0.heap.size) (hl : Lk w lv Ab zs) (ww : WW L) (h : SomeNew w L a w') : ∃ S D, a = .returned (ptr S) ∧ Ok B S D lv Ab w0 w' zs L 0 ∧ w.heap.size ≤ S ∧ w.heap.size ≤ D := by
  obtain ⟨S, D, rfl, hS, hD, hs, hb'⟩ := h
  have := hl.lt
  exact ⟨S, D, rfl, ⟨⟨0, by omega, by omega, Own.of_new hb hB hS hD hs hb'⟩, hl.below hb', by omega, ww⟩, hS, hD⟩
theorem sruns_succ (k : Nat) (L : List Int) (m : Sm) : sruns (k + 1) L m = sruns k (sstp L m).1 (sstp L m).2 := rfl
theorem sstp_sruns (k : Nat) : ∀ (L : List Int) (m : Sm), sstp (sruns k L m).1 (sruns k L m).2 = sruns (k + 1) L m := by
  induction k with
  | zero => intro L m; rfl
  | succ k ih => intro L m; rw [sruns_succ, ih, ← sruns_succ]
theorem sruns_k (k : Nat) : ∀ (L : List Int) (m : Sm), (sruns k L m).2.k = m.k := by
  induction k with
  | zero => intro L m; rfl
  | succ k ih => intro L m; rw [sruns_succ, ih, sstp_k]
theorem sruns_w (k : Nat) : ∀ {L : List Int} {m : Sm} {t : Int}, WW L → Wm t m → WW (sruns k L m).1 ∧ Wm (t + k) (sruns k L m).2 := by
  induction k with
  | zero => intro L m t h h2; exact ⟨h, (show Wm (t + ((0 : Nat) : Int)) m from h2.mono (by omega))⟩
  | succ k ih =>
    intro L m t h h2
    rw [sruns_succ]
    have := ih (h.step h2) (h2.step h)
    exact ⟨this.1, this.2.mono (by omega)⟩
attribute [local irreducible] sruns

/-- A machine that has gone on for i steps. -/
structure On (B S D : Nat) (lv : Value) (Ab M : Nat) (w0 w1 w : World) (zs L : List Int) (m : Sm) (i : Nat) (k : Int) : Prop where
  ok : Ok B S D lv Ab w0 w zs (sruns i L m).1 (k + i)
  mm : MM w M lv (sruns i L m).2
  u : U3 M S D w1 w
theorem On.start (h : Ok B S D lv Ab w0 w zs L k) (hm : MM w M lv m) : On B S D lv Ab M w0 w w zs L m 0 k := by
  refine ⟨?_, ?_, .refl _ _ _ _⟩
  · unfold sruns; simpa using h
  · unfold sruns; exact hm
theorem on_step {w1 : World} {i : Nat} (h : On B S D lv Ab M w0 w1 w zs L m i k) (a : Ap B S D Ab M) (hz : m.k.links = zs) (wm : Wm t m) (ww : WW L) (hk : k + i ≤ 900000000) (ht : t + i ≤ 900000000) :
    Calls Tryz.prog 166 #[ptr M, ptr S] w fun e w' => e = .returned (.bool (decide ((sruns (i + 1) L m).2.pc = 0))) ∧ On B S D lv Ab M w0 w1 w' zs L m (i + 1) k := by
  refine (step_ok h.ok h.mm a (by rw [sruns_k]; exact hz) (sruns_w i ww wm).2 hk ht).mono ?_
  rintro e w' ⟨rfl, h1, h2, h3⟩
  rw [sstp_sruns] at h1 h2 ⊢
  exact ⟨rfl, h1.more (by omega), h2, h.u.trans h3⟩

/-- A step of one that is finished. -/
theorem step_end (h : MM w M lv m) (hp : m.pc = 0) (v : Value) : Calls Tryz.prog 166 #[ptr M, v] w fun e w' => e = .returned (.bool true) ∧ w = w' := by
  have c4 : w.cell? ⟨M, 3, none⟩ = some (nxt M m) := by unfold MM Mem at h; simp [World.cell?, h]
  rw [nxt_no hp] at c4
  clear h hp
  go_enter Tryz.func166, Tryz.ntmps166
  go_wp2
  go_ret
  exact ⟨rfl, rfl⟩
end Go.Proofs.YtnfbjebhpljikaaGreat

namespace Go.Proofs.YtnfbjebhpljikaaGreat
open Go.RowKit
set_option linter.unusedVariables false

theorem info3 : (Tryz.prog.info? 3).map (fun i => (i.zero, i.size, i.bytes)) = some (some (.int .i64 0), 1, 8) := by kernel_rfl
theorem grown_of_below {a b : World} {row : Option Nat} (h : Below a.heap.size a b) : a.grownBy b row :=
  ⟨h.os, h.tape, h.output, h.size, fun i hi _ => h.block i hi⟩
/-- A row of integers of the call's own. -/
def OwnI (k : IntKind) (e : TypeId) (B : Nat) (w0 wr : World) (v : Value) (l : List Int) : Prop :=
  wr.ownsRow B e 1 v l.length (l.map (Value.int k)) ∧ Below B w0 wr
theorem OwnI.nil {k : IntKind} {e : TypeId} {B : Nat} {w0 wr : World} (h : Below B w0 wr) : OwnI k e B w0 wr (.slice none 0 0) [] := ⟨World.ownsRow_nil _ _ _ _, h⟩
theorem OwnI.step {k : IntKind} {e : TypeId} {B : Nat} {w0 wr w' : World} {v : Value} {l : List Int} (h : OwnI k e B w0 wr v l) (hB : B ≤ w0.heap.size) (hb : Below wr.heap.size wr w') : OwnI k e B w0 w' v l :=
  ⟨h.1.kept (grown_of_below (row := none) hb) (by cases v.ownBlock <;> simp), below_step h.2 (Nat.le_trans hB h.2.size) hb⟩
theorem OwnI.alloc {k : IntKind} {e : TypeId} {B : Nat} {w0 wr : World} {v : Value} {l : List Int} (h : OwnI k e B w0 wr v l) (hB : B ≤ w0.heap.size) (o : Obj) : OwnI k e B w0 (wr.alloc o) v l :=
  ⟨h.1.alloc o, h.2.alloc (Nat.le_trans hB h.2.size) o⟩
theorem OwnI.reads {k : IntKind} {e : TypeId} {B : Nat} {w0 wr : World} {v : Value} {l : List Int} (h : OwnI k e B w0 wr v l) : ∃ A cap, v = .slice A l.length cap ∧ Reads k wr A l ∧ (A = none → cap = 0) ∧ l.length ≤ cap ∧ cap ≤ maxLen := by
  obtain ⟨ho, hb⟩ := h
  have hlt := ho.lt
  have hcell := fun g (hg : v.ownBlock = some g) => ho.cells hg
  obtain ⟨hl, ⟨h1, h2⟩ | ⟨g, cap, cur, h1, h2, h3, h4, h5, h6, h7⟩⟩ := ho
  · exact ⟨none, 0, by rw [h1, h2], fun h => by omega, fun _ => rfl, by omega, by unfold maxLen; omega⟩
  · refine ⟨_, cap, h1, fun _ => ⟨g, 0, rfl, (hlt g (by rw [h1]; rfl)).2, fun i hi => ?_⟩, (fun e => by cases e), h4, h5⟩
    have c0 := hcell g (by rw [h1]; rfl) i _ (map_get k l i hi)
    rw [add_off] at c0
    exact c0

/-- An append of one integer that has just been built. -/
theorem append_int {k : IntKind} {wr : World} {T : TypeId} {x : Int} {ops : Array Oper} {rest : List Oper} {o : Oper} {a : Act} {Q : Exit → Act → World → Prop} (hg : o.guard = none) (s c : Operand) (t e : TypeId)
    (ho : o.op = .call { callee := .builtin .append, args := #[s, c], argTypes := #[t, t] }) (ht : Tryz.prog.underlying t = some (.slice e))
    (hi : (Tryz.prog.info? e).map (fun i => (i.zero, i.size, i.bytes)) = some (some (.int k 0), 1, 8))
    (B : Nat) (w0 : World) (v : Value) (l : List Int) (hs : a.eval s = v) (hown : OwnI k e B w0 wr v l) (hx : a.eval c = .slice (some ⟨wr.heap.size, 0, none⟩) 1 1) (hl : l.length ≤ 100000) (hB : B ≤ w0.heap.size)
    (h : ∀ v' w', OwnI k e B w0 w' v' (l ++ [x]) → wpList Tryz.prog ops Q rest (a.put o.dst v') w') :
    wpList Tryz.prog ops Q (o :: rest) a (wr.alloc (.cells #[.int k x] T)) := by
  obtain ⟨i0, hi0, hz0, hz1, hz2⟩ := info_parts hi
  have hsz := hown.2.size
  have hn := hown.alloc hB (.cells #[.int k x] T)
  refine wpList_append_own _ hg s c t ho B e i0 _ 1 8 ht hi0 hz0 hz1 hz2 rfl (by decide) v l.length _ hs hn.1 ⟨wr.heap.size, 0, none⟩ 1 1 [.int k x] hx rfl ?_ ?_ (by unfold maxLen; omega) (by omega) (by simp; omega) ?_
  · intro j u hj
    rw [add_off, World.cell?_alloc_at _ _ _ _ rfl]
    match j, hj with
    | 0, hj => simp at hj; subst hj; rfl
  · intro u hu
    simp at hu
    rcases hu with rfl
    rfl
  · intro v' w' h1 h2 _
    refine h v' w' ⟨by simpa using h1, hn.2.grown h2 (by simp; omega) (fun b hb => (hn.1.lt b hb).1)⟩

/-- Where it lies. -/
theorem OwnI.blk {k : IntKind} {e : TypeId} {B : Nat} {w0 wr : World} {v : Value} {l : List Int} (h : OwnI k e B w0 wr v l) : ∃ A cap, v = .slice A l.length cap ∧ (0 < l.length → ∃ b off, A = some ⟨b, off, none⟩ ∧ B ≤ b ∧ b < wr.heap.size ∧ ∀ j, j < l.length → wr.cell? ⟨b, off + j, none⟩ = some (.int k (l.getD j 0))) := by
  obtain ⟨ho, hb⟩ := h
  have hlt := ho.lt
  have hcell := fun g (hg : v.ownBlock = some g) => ho.cells hg
  obtain ⟨hl, ⟨h1, h2⟩ | ⟨g, cap, cur, h1, h2, h3, h4, h5, h6, h7⟩⟩ := ho
  · exact ⟨none, 0, by rw [h1, h2], fun h => by omega⟩
  · refine ⟨_, cap, h1, fun _ => ⟨g, 0, rfl, (hlt g (by rw [h1]; rfl)).1, (hlt g (by rw [h1]; rfl)).2, fun i hi => ?_⟩⟩
    have c0 := hcell g (by rw [h1]; rfl) i _ (map_get k l i hi)
    rw [add_off] at c0
    exact c0
end Go.Proofs.YtnfbjebhpljikaaGreat

namespace Go.Proofs.YtnfbjebhpljikaaGreat
open Go.RowKit
set_option linter.unusedVariables false
set_option linter.unusedSimpArgs false

/-- From a thing on. -/
def wlk (L : List Int) (k : Sk) : Nat → Int → List Int
  | 0, _ => []
  | f + 1, x => if x = 0 then [] else x :: wlk L k f (low (ldq L (atOf k.links x)))
theorem low_ldq (L : List Int) (p : Int) : 0 < low (ldq L p) ↔ ((0 ≤ p ∧ p < L.length) ∧ 0 < low (L.getD p.toNat 0)) := by
  unfold ldq; split
  · rename_i h; exact ⟨fun h2 => ⟨h, h2⟩, fun h2 => h2.2⟩
  · rename_i h; exact ⟨fun h2 => by simp [low] at h2, fun h2 => absurd h2.1 h⟩
theorem walk_wlk (L : List Int) (k : Sk) : ∀ (f : Nat) (p : Int), walkQ L k f p = wlk L k f (low (ldq L p))
  | 0, p => rfl
  | f + 1, p => by
    have h := low_ldq L p
    have h0 := (low_rng (ldq L p)).1
    unfold walkQ wlk
    by_cases hc : (0 ≤ p ∧ p < L.length) ∧ 0 < low (L.getD p.toNat 0)
    · have e : ldq L p = L.getD p.toNat 0 := by unfold ldq; rw [if_pos hc.1]
      rw [if_pos hc, e, if_neg (by omega), walk_wlk L k f]
    · have h2 : low (ldq L p) = 0 := by
        have : ¬ 0 < low (ldq L p) := fun h3 => hc (h.1 h3)
        omega
      rw [if_neg hc, if_pos h2]

theorem OwnI.bel {k : IntKind} {e : TypeId} {B : Nat} {w0 wr : World} {v : Value} {l : List Int} (h : OwnI k e B w0 wr v l) : Below B w0 wr := h.2
theorem wp_scope_once {P : Program} {a : Act} {w : World} {Q : Exit → Act → World → Prop} {c X : Code} (l : Nat) (J : Act → World → Prop) (μ : Act → World → Nat) (hf : findLabel c l = some (Code.skip.seq X))
    (pass : ∀ a w, J a w → ∀ JJ : Act → World → Prop, (∀ a' w', J a' w' → μ a' w' < μ a w → JJ a' w') → X.wp P (Exit.jump l JJ Q) a w)
    (first : ∀ JJ : Act → World → Prop, (∀ a w, J a w → X.wp P (Exit.jump l JJ Q) a w) → c.wp P (Exit.jump l JJ Q) a w) : (Code.scope c).wp P Q a w :=
  wp_scope_jumps l J μ hf (first J fun a w h => pass a w h J fun _ _ h _ => h) fun a w h => wp_seq (wp_skip (pass a w h _ fun _ _ h h2 => ⟨h, h2⟩))

end Go.Proofs.YtnfbjebhpljikaaGreat

namespace Go.Proofs.YtnfbjebhpljikaaGreat
open Go.RowKit
set_option linter.unusedVariables false

/-- A row that an append of words to nil has made. -/
def Fresh (B g n cap : Nat) (w0 wr : World) (zs : List Int) : Prop := wr.ownsRow B 37 1 (.slice (some ⟨g, 0, none⟩) n cap) n (zs.map (Value.int .u64)) ∧ Below B w0 wr ∧ zs.length = n
theorem Fresh.cell {B g n cap : Nat} {w0 wr : World} {zs : List Int} (h : Fresh B g n cap w0 wr zs) (i : Nat) (hi : i < n) : wr.cell? ⟨g, i, none⟩ = some (.int .u64 (zs.getD i 0)) ∧ wr.frozen? ⟨g, i, none⟩ = false := by
  refine ⟨?_, h.1.frozenAt i⟩
  rw [h.1.cellAt i (by omega)]
  exact map_get .u64 zs i (by rw [h.2.2]; exact hi)
theorem Fresh.lt {B g n cap : Nat} {w0 wr : World} {zs : List Int} (h : Fresh B g n cap w0 wr zs) : B ≤ g ∧ g < wr.heap.size := h.1.lt g rfl
theorem Fresh.set {B g n cap : Nat} {w0 wr : World} {zs : List Int} (h : Fresh B g n cap w0 wr zs) (i : Nat) (v : Int) : Fresh B g n cap w0 (wr.setCell ⟨g, i, none⟩ (.int .u64 v)) (zs.set i v) := by
  have s := (h.1.stored i (.int .u64 v)).1
  rw [← List.map_set] at s
  exact ⟨s, h.2.1.setCell h.lt.1 _, by rw [List.length_set]; exact h.2.2⟩
theorem Fresh.reads {B g n cap : Nat} {w0 wr : World} {zs : List Int} (h : Fresh B g n cap w0 wr zs) : Reads .u64 wr (some ⟨g, 0, none⟩) zs := fun _ =>
  ⟨g, 0, rfl, h.lt.2, fun j hj => by rw [Nat.zero_add]; exact (h.cell j (by rw [← h.2.2]; exact hj)).1⟩
/-- A slice of words in a block of this kind. -/
def ReadsW (P : Nat → Prop) (w : World) (A : Option Addr) (zs : List Int) : Prop :=
  0 < zs.length → ∃ b off, A = some ⟨b, off, none⟩ ∧ b < w.heap.size ∧ P b ∧ ∀ j, j < zs.length → w.cell? ⟨b, off + j, none⟩ = some (.int .u64 (zs.getD j 0))
theorem ReadsW.reads {P : Nat → Prop} {w : World} {A : Option Addr} {zs : List Int} (h : ReadsW P w A zs) : Reads .u64 w A zs := fun h0 => by
  obtain ⟨b, off, e, hlt, _, hc⟩ := h h0
  exact ⟨b, off, e, hlt, hc⟩
theorem ReadsW.upd {P Q : Nat → Prop} {S D : Nat} {w w' : World} {A : Option Addr} {zs : List Int} (h : ReadsW P w A zs) (u : Upd S D w w') (hP : ∀ b, P b → b < w.heap.size → b ≠ S ∧ b ≠ D ∧ Q b) : ReadsW Q w' A zs := fun h0 => by
  obtain ⟨b, off, e, hlt, hp, hc⟩ := h h0
  obtain ⟨h1, h2, h3⟩ := hP b hp hlt
  exact ⟨b, off, e, Nat.lt_of_lt_of_le hlt u.size, h3, fun j hj => (World.cell?_of_block (w := w) (a := ⟨b, off + j, none⟩) (u.block b hlt h1 h2)).trans (hc j hj)⟩
theorem ReadsW.below {P : Nat → Prop} {w w' : World} {A : Option Addr} {zs : List Int} (h : ReadsW P w A zs) (hb : Below w.heap.size w w') : ReadsW P w' A zs := fun h0 => by
  obtain ⟨b, off, e, hlt, hp, hc⟩ := h h0
  exact ⟨b, off, e, Nat.lt_of_lt_of_le hlt hb.size, hp, fun j hj => (hb.cell (p := ⟨b, off + j, none⟩) hlt).trans (hc j hj)⟩
theorem Reads.toP {P : Nat → Prop} {w : World} {A : Option Addr} {zs : List Int} (h : Reads .u64 w A zs) (hP : ∀ b, b < w.heap.size → P b) : ReadsW P w A zs := fun h0 => by
  obtain ⟨b, off, e, hlt, hc⟩ := h h0
  exact ⟨b, off, e, hlt, hP b hlt, hc⟩
theorem Fresh.readsW {P : Nat → Prop} {B g n cap : Nat} {w0 wr : World} {zs : List Int} (h : Fresh B g n cap w0 wr zs) (hP : ∀ b, B ≤ b → P b) : ReadsW P wr (some ⟨g, 0, none⟩) zs := fun _ =>
  ⟨g, 0, rfl, h.lt.2, hP g h.lt.1, fun j hj => by rw [Nat.zero_add]; exact (h.cell j (by rw [← h.2.2]; exact hj)).1⟩

theorem append_words {w : World} {ops : Array Oper} {rest : List Oper} {o : Oper} {a : Act} {Q : Exit → Act → World → Prop} (hg : o.guard = none) (s x : Operand)
    (ho : o.op = .call { callee := .builtin .append, args := #[s, x], argTypes := #[35, 35] })
    (A : Option Addr) (n cap : Nat) (zs : List Int) (hs : a.eval s = .slice none 0 0) (hx : a.eval x = .slice A n cap) (hn : n = zs.length) (h0 : 0 < n) (hl : n ≤ 1000000) (hr : Reads .u64 w A zs)
    (h : ∀ g cap' w', Fresh w.heap.size g n cap' w w' zs → wpList Tryz.prog ops Q rest (a.put o.dst (.slice (some ⟨g, 0, none⟩) n cap')) w') :
    wpList Tryz.prog ops Q (o :: rest) a w := by
  obtain ⟨i0, hi0, hz0, hz1, hz2⟩ := info_parts info34
  obtain ⟨b, off, rfl, hlt, hc⟩ := hr (by omega)
  refine wpList_append_own _ hg s x 35 ho w.heap.size 37 i0 _ 1 8 Tryz.underlying35 hi0 hz0 hz1 hz2 rfl (by decide) _ 0 [] hs (World.ownsRow_nil _ _ _ _) ⟨b, off, none⟩ n cap (zs.map (Value.int .u64)) hx (by simp [hn]) ?_ ?_ (by unfold maxLen; omega) (by omega) (by omega) ?_
  · intro j u hj
    rcases Nat.lt_or_ge j zs.length with hj' | hj'
    · rw [map_get .u64 zs j hj'] at hj
      cases hj
      rw [add_off]; exact hc j hj'
    · rw [List.getElem?_eq_none (by simpa using hj')] at hj; cases hj
  · intro u hu
    obtain ⟨y, _, rfl⟩ := List.mem_map.1 hu
    rfl
  · intro v' w' h1 h2 _
    rw [Nat.zero_add, List.nil_append] at h1
    obtain ⟨g, cap', rfl⟩ : ∃ g cap', v' = .slice (some ⟨g, 0, none⟩) n cap' := by
      rcases h1.2 with ⟨_, e⟩ | ⟨g, cap', cur, e, _⟩
      · omega
      · exact ⟨g, cap', e⟩
    exact h g cap' w' ⟨h1, (Below.refl _ _).grown h2 (Nat.le_refl _) (fun k hk => by cases hk), hn.symm⟩

/-- A slice that reads as these, apart from both blocks. -/
def SomeSl (P : Nat → Prop) (w : World) (n : Nat) (zs : List Int) (e : Ending) (w' : World) : Prop :=
  ∃ A cap, e = .returned (.slice A n cap) ∧ ReadsW P w' A zs ∧ Below w.heap.size w w'

/-- The same, and a bool; and a word. -/
def SomeSlB (P : Nat → Prop) (w : World) (n : Nat) (zs : List Int) (b : Bool) (e : Ending) (w' : World) : Prop :=
  ∃ A cap, e = .returned (.tuple #[.slice A n cap, .bool b]) ∧ ReadsW P w' A zs ∧ Below w.heap.size w w'
end Go.Proofs.YtnfbjebhpljikaaGreat

namespace Go.Proofs.YtnfbjebhpljikaaGreat
open Go.RowKit
set_option linter.unusedVariables false
set_option linter.unusedSimpArgs false

abbrev kval (h : Int) (A : Option Addr) (n cap : Nat) : Value := .agg #[.int .i64 h, .slice A n cap]

def lenV : Value → Nat
  | .slice _ n _ => n
  | _ => 0
end Go.Proofs.YtnfbjebhpljikaaGreat
