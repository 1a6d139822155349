/- A machine's step, and what it tells, walked. A store of the call's own with links, and machines over it. A stack's things in a list of words, walked. The document's own places and walk. -/
import Derived.Test.YtponbnbgiiepdaaGreatJ10
import Derived.Test.YtponbnbgiiepdaaGreatJ3
import Derived.ScopeJumps
import Derived.WalkMore
import Derived.Test.YtponbnbgiiepdaaGreatJ2
namespace Go.Proofs.YtponbnbgiiepdaaGreat
open Go.RowKit
set_option linter.unusedVariables false
set_option linter.unusedSimpArgs false
variable {w0 : World} {M S D Ab : Nat} {lv : Value} {m : Sm} {L : List Int} {c t : Int}

theorem eqin_fn (d f M : Nat) (w : World) : (Op.equalIn (d + 1) 105 (fnv f M) .nilFunc).run Tryz.prog w = .ok false w := by
  simp [Op.equalIn, run_underlying Tryz.underlying105]
theorem eqin_nil (d : Nat) (w : World) : (Op.equalIn (d + 1) 105 .nilFunc .nilFunc).run Tryz.prog w = .ok true w := by
  simp [Op.equalIn, run_underlying Tryz.underlying105]
@[go_sem] theorem eql_fn (f M : Nat) (w : World) : (binOp .eql 105 (fnv f M) .nilFunc).run Tryz.prog w = .ok (.bool false) w := by
  have h : (Op.equal 105 (fnv f M) .nilFunc).run Tryz.prog w = .ok false w := eqin_fn 9999 f M w
  simp only [binOp]
  simp [h]
@[go_sem] theorem eql_nil (w : World) : (binOp .eql 105 .nilFunc .nilFunc).run Tryz.prog w = .ok (.bool true) w := by
  have h : (Op.equal 105 .nilFunc .nilFunc).run Tryz.prog w = .ok true w := eqin_nil 9999 w
  simp only [binOp]
  simp [h]

def cst (m : Sm) (c : Int) : Int := if m.pc = 0 then c else c + 1
theorem cst_le (m : Sm) (c : Int) : c ≤ cst m c ∧ cst m c ≤ c + 1 := by unfold cst; split <;> omega
theorem Mi.nx {w : World} (h : Mi w0 w M S D lv Ab m L c) : w.cell? ⟨M, 3, none⟩ = some (nxt M m) := Mst.c3 h

theorem nfn_is (m : Sm) (P : Nat → Prop) (a0 : P 157) (a1 : P 159) (a2 : P 160) (a3 : P 142) (a4 : P 147) (a5 : P 151) : P (nfn m) := by
  unfold nfn
  repeat' split
  all_goals assumption
theorem enter_nfn (m : Sm) (a : Array Value) (w : World) : (callFunc (nfn m) a).run Tryz.prog w = .ok (.enter (nfn m) a) w := by
  refine nfn_is m (fun f => (callFunc f a).run Tryz.prog w = .ok (.enter f a) w) ?_ ?_ ?_ ?_ ?_ ?_ <;> simp [go_sem]

set_option maxHeartbeats 1000000 in
theorem step_on (w : World) (h : Mi w0 w M S D lv Ab m L c) (wm : Wm t m) (ww : WW L) (h0 : 0 ≤ c) (h1 : c ≤ 1000000000) (ht : t ≤ 1000000000) (hp : m.pc ≠ 0) :
    Calls Tryz.prog 178 #[ptr M, ptr S] w fun a w' => a = .returned (.bool (decide ((sstp L m).2.pc = 0))) ∧ Mi w0 w' M S D lv Ab (sstp L m).2 (sstp L m).1 (c + 1) := by
  have c4 := h.nx
  rw [nxt_at hp] at c4
  have HN := Lib.hid (next_any h hp wm ww h0 h1 ht)
  have hen := fun (a : Array Value) (w : World) => enter_nfn m a w
  generalize nfn m = f at c4 HN hen
  generalize sstp L m = z at HN ⊢
  obtain ⟨L', m'⟩ := z
  have HP := Lib.hid hp
  clear h hp wm ww
  by_cases hp' : m'.pc = 0
  · have e1 : decide (m'.pc = 0) = true := by simpa using hp'
    rw [e1]
    have HP' := Lib.hid hp'; clear hp' e1
    go_enter Tryz.func178, Tryz.ntmps178
    go_wp2_with (first
      | ((with_reducible refine HN.out.mono ?_); rintro r w1 ⟨rfl, hk⟩; have HK := Lib.hid hk; have d4 := hk.nx; rw [nxt_no HP'.out] at d4; clear hk)
      | fail)
    go_ret
    exact ⟨rfl, HK.out⟩
  · have e1 : decide (m'.pc = 0) = false := by simpa using hp'
    rw [e1]
    have HP' := Lib.hid hp'; clear hp' e1
    go_enter Tryz.func178, Tryz.ntmps178
    go_wp2_with (first
      | ((with_reducible refine HN.out.mono ?_); rintro r w1 ⟨rfl, hk⟩; have HK := Lib.hid hk; have d4 := hk.nx; rw [nxt_at HP'.out] at d4; clear hk)
      | fail)
    go_ret
    exact ⟨rfl, HK.out⟩

set_option maxHeartbeats 1000000 in
theorem step_off (w : World) (h : Mi w0 w M S D lv Ab m L c) (hp : m.pc = 0) :
    Calls Tryz.prog 178 #[ptr M, ptr S] w fun a w' => a = .returned (.bool true) ∧ w = w' := by
  have c4 := h.nx
  rw [nxt_no hp] at c4
  clear h hp
  go_enter Tryz.func178, Tryz.ntmps178
  go_wp2
  go_ret
  exact ⟨rfl, rfl⟩
/-- A step. -/
theorem step_any (w : World) (h : Mi w0 w M S D lv Ab m L c) (wm : Wm t m) (ww : WW L) (h0 : 0 ≤ c) (h1 : c ≤ 1000000000) (ht : t ≤ 1000000000) :
    Calls Tryz.prog 178 #[ptr M, ptr S] w fun a w' => a = .returned (.bool (decide ((sstp L m).2.pc = 0))) ∧ Mi w0 w' M S D lv Ab (sstp L m).2 (sstp L m).1 (cst m c) := by
  by_cases hp : m.pc = 0
  · rw [sstp_no hp]
    refine (step_off w h hp).mono ?_
    rintro a w' ⟨rfl, rfl⟩
    exact ⟨by simp [hp], by simpa [cst, hp] using h⟩
  · refine (step_on w h wm ww h0 h1 ht hp).mono ?_
    rintro a w' ⟨rfl, hk⟩
    exact ⟨rfl, by simpa [cst, hp] using hk⟩
set_option maxHeartbeats 1000000 in
theorem step_nil (v : Value) (w : World) : Calls Tryz.prog 178 #[.pointer none, v] w fun a w' => a = .returned (.bool true) ∧ w = w' := by
  go_enter Tryz.func178, Tryz.ntmps178
  go_wp2
  go_ret
  exact ⟨rfl, rfl⟩

/-- A machine in memory, by itself. -/
def MM (w : World) (M : Nat) (lv : Value) (m : Sm) : Prop := Mem w M lv m.k.head (fnv (ffn m) M) (nxt M m) m.h m.item m.link (sItem m) m.tries
theorem MM.lt {w : World} (h : MM w M lv m) : M < w.heap.size := (Array.getElem?_eq_some_iff.1 h).1
theorem MM.u3 {w w' : World} {M' : Nat} (h : MM w M lv m) (u : U3 M' S D w w') (n0 : M ≠ M') (n1 : M ≠ S) (n2 : M ≠ D) : MM w' M lv m :=
  (u.block M h.lt n0 n1 n2).trans h
theorem MM.below {w w' : World} (h : MM w M lv m) (hb : Below w.heap.size w w') : MM w' M lv m := (hb.block M h.lt).trans h
theorem MM.mi {w : World} (h : MM w M lv m) (hs : St w S D L c) (hl : Lk w lv Ab m.k.links) (n1 : M ≠ S) (n2 : M ≠ D) (b2 : Ab ≠ M ∧ Ab ≠ S ∧ Ab ≠ D) : Mi w w M S D lv Ab m L c :=
  ⟨h, hs, n1, n2, hl, b2, .refl _ _ _ _⟩
theorem Mi.mm {w : World} (h : Mi w0 w M S D lv Ab m L c) : MM w M lv m := h.mem
theorem Mi.st' {w : World} (h : Mi w0 w M S D lv Ab m L c) : St w S D L c := h.st
theorem Mi.u' {w : World} (h : Mi w0 w M S D lv Ab m L c) : U3 M S D w0 w := h.u
theorem Mi.lk' {w : World} (h : Mi w0 w M S D lv Ab m L c) : Lk w lv Ab m.k.links := h.lk

set_option maxHeartbeats 1000000 in
theorem item_any (w : World) (h : MM w M lv m) (wm : Wm t m) : Calls Tryz.prog 177 #[ptr M] w fun a w' => a = .returned (.int .i64 (sItem m)) ∧ w = w' := by
  have c7 : w.cell? ⟨M, 7, none⟩ = some (.int .u32 (sItem m)) := by unfold MM Mem at h; simp [World.cell?, h]
  have i0 : 0 ≤ sItem m ∧ sItem m ≤ 4294967295 := by have := wm.i; unfold sItem; split <;> omega
  obtain ⟨y, hy⟩ : ∃ y, y = sItem m := ⟨_, rfl⟩
  rw [← hy] at c7 i0 ⊢
  obtain ⟨y0, y1⟩ := i0
  clear h hy wm
  go_enter Tryz.func177, Tryz.ntmps177
  go_wp2
  go_ret
  exact ⟨rfl, rfl⟩
set_option maxHeartbeats 1000000 in
theorem item_nil (w : World) : Calls Tryz.prog 177 #[.pointer none] w fun a w' => a = .returned (.int .i64 0) ∧ w = w' := by
  go_enter Tryz.func177, Tryz.ntmps177
  go_wp2
  go_ret
  exact ⟨rfl, rfl⟩
/-- How many accesses there were. -/
theorem cnt_any (w : World) (h : St w S D L c) : Calls Tryz.prog 19 #[ptr S] w fun a w' => a = .returned (.int .i64 c) ∧ w = w' := by
  have hc := h.many
  clear h
  go_enter Tryz.func19, Tryz.ntmps19
  go_wp2
  go_ret
  exact ⟨rfl, rfl⟩

/-- A machine in new memory. -/
def NewM (w : World) (lv : Value) (m : Sm) (a : Ending) (w' : World) : Prop := ∃ M, a = .returned (ptr M) ∧ w.heap.size ≤ M ∧ MM w' M lv m ∧ Below w.heap.size w w'

set_option maxHeartbeats 1000000 in
theorem numbered_any (x : Int) (w : World) (hx : -9223372036854775808 ≤ x ∧ x ≤ 9223372036854775807) : Calls Tryz.prog 156 #[.int .i64 x] w fun a w' => a = .returned (.int .u32 (itemOf x)) ∧ w = w' := by
  by_cases h1 : x < 1
  · have e : itemOf x = 0 := by unfold itemOf; rw [if_pos (.inl h1)]
    rw [e]; clear e
    go_enter Tryz.func156, Tryz.ntmps156
    go_wp2
    go_ret
    exact ⟨rfl, rfl⟩
  · by_cases h2 : 4294967295 < x
    · have e : itemOf x = 0 := by unfold itemOf; rw [if_pos (.inr h2)]
      rw [e]; clear e
      go_enter Tryz.func156, Tryz.ntmps156
      go_wp2
      go_ret
      exact ⟨rfl, rfl⟩
    · have e : itemOf x = x := by unfold itemOf; rw [if_neg (by omega)]
      rw [e]; clear e
      go_enter Tryz.func156, Tryz.ntmps156
      go_wp2
      go_ret
      exact ⟨rfl, rfl⟩
theorem new_m (w : World) (k : Sk) (x : Int) (g kd : Nat) (hg : kd = 1 ∧ g = 157 ∨ kd = 2 ∧ g = 142) :
    NewM w lv ⟨kd, 1, k, x, 0, 0, 0⟩ (.returned (ptr w.heap.size)) (w.alloc (.cells #[.int .i64 k.head, lv, fnv g w.heap.size, fnv g w.heap.size, .int .u64 0, .int .u32 x, .int .u32 0, .int .u32 0, .int .i64 0] 175)) := by
  refine ⟨w.heap.size, rfl, Nat.le_refl _, ?_, below_alloc0 (Below.refl _ _) _⟩
  have e1 : nxt w.heap.size ⟨kd, 1, k, x, 0, 0, 0⟩ = fnv g w.heap.size := by rcases hg with ⟨rfl, rfl⟩ | ⟨rfl, rfl⟩ <;> simp [nxt, nfn]
  have e2 : ffn ⟨kd, 1, k, x, 0, 0, 0⟩ = g := by rcases hg with ⟨rfl, rfl⟩ | ⟨rfl, rfl⟩ <;> simp [ffn]
  unfold MM Mem
  rw [e1, e2]
  show (w.heap.push _)[w.heap.size]? = _
  simp [sItem]
set_option maxHeartbeats 1000000 in
theorem push_any {zs : List Int} (k : Sk) (x : Int) (w : World) (hl : Lk w lv Ab zs) (hx : -9223372036854775808 ≤ x ∧ x ≤ 9223372036854775807) : Calls Tryz.prog 153 #[.int .i64 k.head, lv, .int .i64 x] w (NewM w lv (mPush k x)) := by
  have hmf : ∀ (fn : Fn) (first cap : Array Value) (w : World), (Instr.makeFunc fn first cap).run Tryz.prog w = .ok (.func fn first cap) w := fun _ _ _ _ => rfl
  obtain ⟨c, _, _, hr⟩ := hl
  rcases hr with ⟨rfl, _⟩ | ⟨rfl, _⟩
  · go_enter Tryz.func153, Tryz.ntmps153
    go_wp2_with (first
      | (go_at_call 156; (with_reducible refine (numbered_any _ _ hx).mono ?_); rintro r w1 ⟨rfl, hw⟩; cases hw)
      | fail)
    go_ret
    exact new_m w k (itemOf x) 157 1 (.inl ⟨rfl, rfl⟩)
  · go_enter Tryz.func153, Tryz.ntmps153
    go_wp2_with (first
      | (go_at_call 156; (with_reducible refine (numbered_any _ _ hx).mono ?_); rintro r w1 ⟨rfl, hw⟩; cases hw)
      | fail)
    go_ret
    exact new_m w k (itemOf x) 157 1 (.inl ⟨rfl, rfl⟩)
set_option maxHeartbeats 1000000 in
theorem pop_any {zs : List Int} (k : Sk) (w : World) (hl : Lk w lv Ab zs) : Calls Tryz.prog 134 #[.int .i64 k.head, lv] w (NewM w lv (mPop k)) := by
  have hmf : ∀ (fn : Fn) (first cap : Array Value) (w : World), (Instr.makeFunc fn first cap).run Tryz.prog w = .ok (.func fn first cap) w := fun _ _ _ _ => rfl
  obtain ⟨c, _, _, hr⟩ := hl
  rcases hr with ⟨rfl, _⟩ | ⟨rfl, _⟩
  · go_enter Tryz.func134, Tryz.ntmps134
    go_wp2
    go_ret
    exact new_m w k 0 142 2 (.inr ⟨rfl, rfl⟩)
  · go_enter Tryz.func134, Tryz.ntmps134
    go_wp2
    go_ret
    exact new_m w k 0 142 2 (.inr ⟨rfl, rfl⟩)
theorem wm_push (k : Sk) (x : Int) : Wm 0 (mPush k x) := by
  refine ⟨.inl rfl, (by simp [mPush]), (by simp [mPush]), ?_, (by simp [mPush]), (by simp [mPush])⟩
  simp only [mPush]; unfold itemOf; split <;> omega
theorem wm_pop (k : Sk) : Wm 0 (mPop k) := ⟨.inr rfl, (by simp [mPop]), (by simp [mPop]), (by simp [mPop]), (by simp [mPop]), (by simp [mPop])⟩
end Go.Proofs.YtponbnbgiiepdaaGreat

namespace Go.Proofs.YtponbnbgiiepdaaGreat
open Go.RowKit
set_option linter.unusedVariables false
set_option linter.unusedSimpArgs false
variable {B S D Ab M : Nat} {lv : Value} {w0 w w' : World} {zs L : List Int} {k t : Int} {m : Sm}

theorem sstp_k (L : List Int) (m : Sm) : (sstp L m).2.k = m.k := by
  unfold sstp swapS
  repeat' (first | rfl | refine ite_ind (P := fun z : List Int × Sm => z.2.k = m.k) ?_ ?_)

/-- A store of the call's own; k: how many accesses there were at most. -/
structure Ok (B S D : Nat) (lv : Value) (Ab : Nat) (w0 w : World) (zs L : List Int) (k : Int) : Prop where
  own : ∃ c, 0 ≤ c ∧ c ≤ k ∧ Own B S D w0 w L c
  lk : Lk w lv Ab zs
  b2 : Ab ≠ S ∧ Ab ≠ D
  ww : WW L
/-- A block apart from it. -/
def Ap (B S D Ab M : Nat) : Prop := B ≤ M ∧ M ≠ S ∧ M ≠ D ∧ M ≠ Ab
theorem Ok.bel (h : Ok B S D lv Ab w0 w zs L k) : Below B w0 w := by obtain ⟨c, _, _, h⟩ := h.own; exact h.bel
theorem Ok.ltS (h : Ok B S D lv Ab w0 w zs L k) : S < w.heap.size ∧ D < w.heap.size := by obtain ⟨c, _, _, h⟩ := h.own; exact ⟨h.st.ltS, h.st.row.lt⟩
theorem Ok.lo (h : Ok B S D lv Ab w0 w zs L k) : B ≤ S ∧ B ≤ D ∧ B ≤ w0.heap.size := by obtain ⟨c, _, _, h⟩ := h.own; exact ⟨h.1, h.2.1, h.2.2.1⟩
theorem Ok.new (h : Ok B S D lv Ab w0 w zs L k) (hM : w.heap.size ≤ M) : Ap B S D Ab M := by
  have := h.ltS; have := h.lk.lt; have := h.lo; have := h.bel.size
  exact ⟨by omega, by omega, by omega, by omega⟩
theorem Ok.step (h : Ok B S D lv Ab w0 w zs L k) (hb : Below w.heap.size w w') : Ok B S D lv Ab w0 w' zs L k := by
  obtain ⟨c, h0, h1, o⟩ := h.own
  exact ⟨⟨c, h0, h1, o.step hb⟩, h.lk.below hb, h.b2, h.ww⟩
theorem Ok.more (h : Ok B S D lv Ab w0 w zs L k) {k' : Int} (hk : k ≤ k') : Ok B S D lv Ab w0 w zs L k' := by
  obtain ⟨c, h0, h1, o⟩ := h.own
  exact ⟨⟨c, h0, by omega, o⟩, h.lk, h.b2, h.ww⟩
/-- Another block changes. -/
theorem Ok.upd (h : Ok B S D lv Ab w0 w zs L k) {b : Nat} (u : Upd b b w w') (a : Ap B S D Ab b) : Ok B S D lv Ab w0 w' zs L k := by
  obtain ⟨c, h0, h1, o⟩ := h.own
  obtain ⟨a0, a1, a2, a4⟩ := a
  refine ⟨⟨c, h0, h1, o.1, o.2.1, o.2.2.1, o.st.upd u (Ne.symm a1) (Ne.symm a1) (Ne.symm a2) (Ne.symm a2), below_upd o.bel o.2.2.1 u a0 a0⟩, ?_, h.b2, h.ww⟩
  exact h.lk.keep u.size (u.block Ab h.lk.lt (Ne.symm a4) (Ne.symm a4))
theorem Ok.mi (h : Ok B S D lv Ab w0 w zs L k) (hm : MM w M lv m) (a : Ap B S D Ab M) (hz : m.k.links = zs) : ∃ c, 0 ≤ c ∧ c ≤ k ∧ Mi w w M S D lv Ab m L c := by
  obtain ⟨c, h0, h1, o⟩ := h.own
  obtain ⟨a0, a1, a2, a4⟩ := a
  exact ⟨c, h0, h1, hm.mi o.st (by rw [hz]; exact h.lk) a1 a2 ⟨Ne.symm a4, h.b2.1, h.b2.2⟩⟩
theorem Ok.of_mi (h : Ok B S D lv Ab w0 w zs L k) (a : Ap B S D Ab M) {L' : List Int} {c' k' : Int} {m' : Sm} (hz : m'.k.links = zs) (hm : Mi w w' M S D lv Ab m' L' c') (h0 : 0 ≤ c') (h1 : c' ≤ k') (ww : WW L') : Ok B S D lv Ab w0 w' zs L' k' := by
  obtain ⟨c, _, _, o⟩ := h.own
  have l := hm.lk'
  rw [hz] at l
  exact ⟨⟨c', h0, h1, o.1, o.2.1, o.2.2.1, hm.st', below_u3 o.bel o.2.2.1 hm.u' a.1 o.1 o.2.1⟩, l, h.b2, ww⟩

/-- A machine goes on by a step; others stay as they are. -/
theorem step_ok (h : Ok B S D lv Ab w0 w zs L k) (hm : MM w M lv m) (a : Ap B S D Ab M) (hz : m.k.links = zs) (wm : Wm t m) (hk : k ≤ 900000000) (ht : t ≤ 900000000) :
    Calls Tryz.prog 178 #[ptr M, ptr S] w fun e w' => e = .returned (.bool (decide ((sstp L m).2.pc = 0))) ∧ Ok B S D lv Ab w0 w' zs (sstp L m).1 (k + 1) ∧ MM w' M lv (sstp L m).2 ∧ U3 M S D w w' := by
  obtain ⟨c, h0, h1, mi⟩ := h.mi hm a hz
  refine (step_any w mi wm h.ww h0 (by omega) (by omega)).mono ?_
  rintro e w1 ⟨rfl, mi'⟩
  have := cst_le m c
  exact ⟨rfl, h.of_mi a (by rw [sstp_k]; exact hz) mi' (k' := k + 1) (by omega) (by omega) (h.ww.step wm), mi'.mm, mi'.u'⟩
theorem load_ok (h : Ok B S D lv Ab w0 w zs L k) (at' : Int) (hk : k ≤ 900000000) :
    Calls Tryz.prog 34 #[ptr S, .int .i64 at'] w fun a w' => a = .returned (.int .u64 (ldq L at')) ∧ Ok B S D lv Ab w0 w' zs L (k + 1) ∧ Upd S D w w' := by
  obtain ⟨c, h0, h1, o⟩ := h.own
  refine (load_any at' w o.st h0 (by omega)).mono ?_
  rintro a w1 ⟨rfl, l⟩
  exact ⟨by rw [ldv_eq], ⟨⟨c + 1, by omega, by omega, o.left l⟩, h.lk.u3 (M := S) (.of_upd l.2) ⟨h.b2.1, h.b2⟩, h.b2, h.ww⟩, l.2⟩
theorem put_ok (h : Ok B S D lv Ab w0 w zs L k) (at' v : Int) (hv : 0 ≤ v ∧ v ≤ 18446744073709551615) (hk : k ≤ 900000000) :
    Calls Tryz.prog 25 #[ptr S, .int .i64 at', .int .u64 v] w fun a w' => a = .returned (.tuple #[]) ∧ Ok B S D lv Ab w0 w' zs (ptq L at' v) (k + 1) ∧ Upd S D w w' := by
  obtain ⟨c, h0, h1, o⟩ := h.own
  refine (put_any at' v w o.st h0 (by omega)).mono ?_
  rintro a w1 ⟨rfl, l⟩
  rw [ptv_eq] at l
  exact ⟨rfl, ⟨⟨c + 1, by omega, by omega, o.left l⟩, h.lk.u3 (M := S) (.of_upd l.2) ⟨h.b2.1, h.b2⟩, h.b2, h.ww.put _ hv⟩, l.2⟩
theorem all_ok (h : Ok B S D lv Ab w0 w zs L k) (hl : L.length ≤ 1000000) :
    Calls Tryz.prog 17 #[ptr S] w fun a w' => a = .returned (.slice (some ⟨w.heap.size, 0, none⟩) L.length L.length) ∧ Row w' w.heap.size L ∧ Ok B S D lv Ab w0 w' zs L k ∧ Below w.heap.size w w' := by
  obtain ⟨c, h0, h1, o⟩ := h.own
  refine (all_any w o.st hl).mono ?_
  rintro a w1 ⟨rfl, hr, hb⟩
  exact ⟨rfl, hr, h.step hb, hb⟩
/-- The store is new; the links are elder. -/
theorem Ok.start {L : List Int} {a : Ending} (hb : Below B w0 w) (hB : B ≤ w0.heap.size) (hl : Lk w lv Ab zs) (ww : WW L) (h : SomeNew w L a w') : ∃ S D, a = .returned (ptr S) ∧ Ok B S D lv Ab w0 w' zs L 0 ∧ w.heap.size ≤ S ∧ w.heap.size ≤ D := by
  obtain ⟨S, D, rfl, hS, hD, hs, hb'⟩ := h
  have := hl.lt
  exact ⟨S, D, rfl, ⟨⟨0, by omega, by omega, Own.of_new hb hB hS hD hs hb'⟩, hl.below hb', by omega, ww⟩, hS, hD⟩
theorem sruns_succ (k : Nat) (L : List Int) (m : Sm) : sruns (k + 1) L m = sruns k (sstp L m).1 (sstp L m).2 := rfl
theorem sstp_sruns (k : Nat) : ∀ (L : List Int) (m : Sm), sstp (sruns k L m).1 (sruns k L m).2 = sruns (k + 1) L m := by
  induction k with
  | zero => intro L m; rfl
  | succ k ih => intro L m; rw [sruns_succ, ih, ← sruns_succ]
theorem sruns_k (k : Nat) : ∀ (L : List Int) (m : Sm), (sruns k L m).2.k = m.k := by
  induction k with
  | zero => intro L m; rfl
  | succ k ih => intro L m; rw [sruns_succ, ih, sstp_k]
theorem sruns_w (k : Nat) : ∀ {L : List Int} {m : Sm} {t : Int}, WW L → Wm t m → WW (sruns k L m).1 ∧ Wm (t + k) (sruns k L m).2 := by
  induction k with
  | zero => intro L m t h h2; exact ⟨h, (show Wm (t + ((0 : Nat) : Int)) m from h2.mono (by omega))⟩
  | succ k ih =>
    intro L m t h h2
    rw [sruns_succ]
    have := ih (h.step h2) (h2.step h)
    exact ⟨this.1, this.2.mono (by omega)⟩
attribute [local irreducible] sruns

/-- A machine that has gone on for i steps. -/
structure On (B S D : Nat) (lv : Value) (Ab M : Nat) (w0 w1 w : World) (zs L : List Int) (m : Sm) (i : Nat) (k : Int) : Prop where
  ok : Ok B S D lv Ab w0 w zs (sruns i L m).1 (k + i)
  mm : MM w M lv (sruns i L m).2
  u : U3 M S D w1 w
theorem On.start (h : Ok B S D lv Ab w0 w zs L k) (hm : MM w M lv m) : On B S D lv Ab M w0 w w zs L m 0 k := by
  refine ⟨?_, ?_, .refl _ _ _ _⟩
  · unfold sruns; simpa using h
  · unfold sruns; exact hm
theorem on_step {w1 : World} {i : Nat} (h : On B S D lv Ab M w0 w1 w zs L m i k) (a : Ap B S D Ab M) (hz : m.k.links = zs) (wm : Wm t m) (ww : WW L) (hk : k + i ≤ 900000000) (ht : t + i ≤ 900000000) :
    Calls Tryz.prog 178 #[ptr M, ptr S] w fun e w' => e = .returned (.bool (decide ((sruns (i + 1) L m).2.pc = 0))) ∧ On B S D lv Ab M w0 w1 w' zs L m (i + 1) k := by
  refine (step_ok h.ok h.mm a (by rw [sruns_k]; exact hz) (sruns_w i ww wm).2 hk ht).mono ?_
  rintro e w' ⟨rfl, h1, h2, h3⟩
  rw [sstp_sruns] at h1 h2 ⊢
  exact ⟨rfl, h1.more (by omega), h2, h.u.trans h3⟩

/-- A step of one that is finished. -/
theorem step_end (h : MM w M lv m) (hp : m.pc = 0) (v : Value) : Calls Tryz.prog 178 #[ptr M, v] w fun e w' => e = .returned (.bool true) ∧ w = w' := by
  have c4 : w.cell? ⟨M, 3, none⟩ = some (nxt M m) := by unfold MM Mem at h; simp [World.cell?, h]
  rw [nxt_no hp] at c4
  clear h hp
  go_enter Tryz.func178, Tryz.ntmps178
  go_wp2
  go_ret
  exact ⟨rfl, rfl⟩
end Go.Proofs.YtponbnbgiiepdaaGreat

namespace Go.Proofs.YtponbnbgiiepdaaGreat
open Go.RowKit
set_option linter.unusedVariables false
set_option linter.unusedSimpArgs false

/-- From a thing on. -/
def wlk (L : List Int) (k : Sk) : Nat → Int → List Int
  | 0, _ => []
  | f + 1, x => if x = 0 then [] else x :: wlk L k f (low (ldq L (atOf k.links x)))
theorem low_ldq (L : List Int) (p : Int) : 0 < low (ldq L p) ↔ ((0 ≤ p ∧ p < L.length) ∧ 0 < low (L.getD p.toNat 0)) := by
  unfold ldq; split
  · rename_i h; exact ⟨fun h2 => ⟨h, h2⟩, fun h2 => h2.2⟩
  · rename_i h; exact ⟨fun h2 => by simp [low] at h2, fun h2 => absurd h2.1 h⟩
theorem walk_wlk (L : List Int) (k : Sk) : ∀ (f : Nat) (p : Int), walkQ L k f p = wlk L k f (low (ldq L p))
  | 0, p => rfl
  | f + 1, p => by
    have h := low_ldq L p
    have h0 := (low_rng (ldq L p)).1
    unfold walkQ wlk
    by_cases hc : (0 ≤ p ∧ p < L.length) ∧ 0 < low (L.getD p.toNat 0)
    · have e : ldq L p = L.getD p.toNat 0 := by unfold ldq; rw [if_pos hc.1]
      rw [if_pos hc, e, if_neg (by omega), walk_wlk L k f]
    · have h2 : low (ldq L p) = 0 := by
        have : ¬ 0 < low (ldq L p) := fun h3 => hc (h.1 h3)
        omega
      rw [if_neg hc, if_pos h2]

set_option maxHeartbeats 1000000 in
theorem told_any (A : Option Addr) (n cap : Nat) (L : List Int) (p : Int) (w : World) (hn : n = L.length) (h : Reads .u64 w A L) (ww : WW L) :
    Calls Tryz.prog 98 #[.slice A n cap, .int .i64 p] w fun e w' => e = .returned (.int .u32 (low (ldq L p))) ∧ Below w.heap.size w w' := by
  by_cases h1 : p < 0
  · have e : low (ldq L p) = 0 := by unfold ldq; rw [if_neg (by omega)]; rfl
    rw [e]
    have d1 : decide (p < 0) = true := by simpa using h1
    clear h e hn ww
    go_enter Tryz.func98, Tryz.ntmps98
    go_wp2_with (fail)
    go_ret
    exact ⟨rfl, Below.refl _ _⟩
  · have d1 : decide (p < 0) = false := by simpa using h1
    by_cases h2 : (n : Int) ≤ p
    · have e : low (ldq L p) = 0 := by unfold ldq; rw [if_neg (by omega)]; rfl
      rw [e]
      have d2 : decide (p ≥ (n : Int)) = true := by simpa using h2
      clear h e hn ww
      go_enter Tryz.func98, Tryz.ntmps98
      go_wp2_with (fail)
      go_ret
      exact ⟨rfl, Below.refl _ _⟩
    · have d2 : decide (p ≥ (n : Int)) = false := by simp; omega
      obtain ⟨i, rfl⟩ : ∃ i : Nat, p = (i : Int) := ⟨p.toNat, by omega⟩
      have hi : i < n := by omega
      obtain ⟨y, hy⟩ : ∃ y, y = ldq L (i : Int) := ⟨_, rfl⟩
      have hb := ww.ldq (i : Int)
      rw [← hy] at hb ⊢
      obtain ⟨y0, y1⟩ := hb
      obtain ⟨b, off, rfl, _, hc⟩ := h (by omega)
      have c1 := hc i (by omega)
      have e : L.getD i 0 = y := by rw [hy]; unfold ldq; rw [if_pos (by omega)]; simp
      rw [e] at c1
      have hi0 : (0 : Int) ≤ (i : Int) := by omega
      have hi1 : (i : Int) < (n : Int) := by omega
      clear h hc hn hy ww e
      go_enter Tryz.func98, Tryz.ntmps98
      go_wp2_with (first
        | (go_at_call 119; (with_reducible refine (low_any _ y0 y1 _).mono ?_); rintro r w2 ⟨rfl, hb⟩)
        | fail)
      go_ret
      exact ⟨rfl, hb⟩

theorem OwnI.bel {k : IntKind} {e : TypeId} {B : Nat} {w0 wr : World} {v : Value} {l : List Int} (h : OwnI k e B w0 wr v l) : Below B w0 wr := h.2
theorem wp_scope_once {P : Program} {a : Act} {w : World} {Q : Exit → Act → World → Prop} {c X : Code} (l : Nat) (J : Act → World → Prop) (μ : Act → World → Nat) (hf : findLabel c l = some (Code.skip.seq X))
    (pass : ∀ a w, J a w → ∀ JJ : Act → World → Prop, (∀ a' w', J a' w' → μ a' w' < μ a w → JJ a' w') → X.wp P (Exit.jump l JJ Q) a w)
    (first : ∀ JJ : Act → World → Prop, (∀ a w, J a w → X.wp P (Exit.jump l JJ Q) a w) → c.wp P (Exit.jump l JJ Q) a w) : (Code.scope c).wp P Q a w :=
  wp_scope_jumps l J μ hf (first J fun a w h => pass a w h J fun _ _ h _ => h) fun a w h => wp_seq (wp_skip (pass a w h _ fun _ _ h h2 => ⟨h, h2⟩))

set_option maxRecDepth 100000 in
set_option maxHeartbeats 4000000 in
theorem walk_any (A : Option Addr) (n cap Ab : Nat) (lv : Value) (L : List Int) (k : Sk) (most : Int) (w : World) (hn : n = L.length) (h : Reads .u64 w A L) (ww : WW L) (hl : Lk w lv Ab k.links) (hm : most ≤ 1000) :
    Calls Tryz.prog 67 #[.slice A n cap, .int .i64 k.head, lv, .int .i64 most] w fun e w' => ∃ v, e = .returned v ∧ OwnI .i64 3 w.heap.size w w' v (walkQ L k most.toNat k.head) := by
  by_cases h0 : most < 1
  · have e : walkQ L k most.toNat k.head = [] := by rw [show most.toNat = 0 by omega]; rfl
    rw [e]
    have d : decide (most < 1) = true := by simpa using h0
    clear h hl ww hn e
    go_enter Tryz.func67, Tryz.ntmps67
    go_wp2_with (fail)
    go_step3
    go_wp2_with (fail)
    rw [Exit.noGoto_ret]
    go_ret
    exact ⟨_, rfl, OwnI.nil (Below.refl _ _)⟩
  · have d : decide (most < 1) = false := by simpa using h0
    obtain ⟨W, hW⟩ : ∃ W, W = walkQ L k most.toNat k.head := ⟨_, rfl⟩
    rw [← hW]
    rw [walk_wlk] at hW
    have HR := Lib.hid h; have HL := Lib.hid hl; have HN := Lib.hid hn; have HW := Lib.hid ww; have HWW := Lib.hid hW
    have H0 := Lib.hid h0
    clear h hl hn ww hW h0
    go_enter Tryz.func67, Tryz.ntmps67
    go_wp2_with (fail)
    refine wp_scope_once 0 (fun a' wr => ∃ (v : Value) (Q0 : List Int) (x : Int) (f : Nat) (u8 u11 u12 u13 u14 u15 u16 u17 u18 u19 u20 u21 u22 u23 u24 u25 u26 u27 u28 u29 u30 u31 u32 u33 : Value), a' = { tmps := #[.slice A n cap, .int .i64 k.head, lv, .int .i64 most, undef, undef, undef, undef, u8, v, .int .u32 x, u11, u12, u13, u14, u15, u16, u17, u18, u19, u20, u21, u22, u23, u24, u25, u26, u27, u28, u29, u30, u31, u32, u33], defers := [] } ∧ OwnI .i64 3 w.heap.size w wr v Q0 ∧ (Q0.length : Int) + f + 1 = most ∧ 0 ≤ x ∧ x ≤ 4294967295 ∧ Q0 ++ wlk L k (f + 1) x = W) (fun a' _ => most.toNat - (match a'.tmps.getD 9 undef with | .slice _ n _ => n | _ => 0)) rfl ?_ ?_
    · rintro a' wr ⟨v, Q0, x, f, u8, u11, u12, u13, u14, u15, u16, u17, u18, u19, u20, u21, u22, u23, u24, u25, u26, u27, u28, u29, u30, u31, u32, u33, rfl, hO, hf, hx0, hx1, hres⟩ JJ hJJ
      have HJ := Lib.hid hJJ; clear hJJ
      obtain ⟨C, hC⟩ : ∃ C, C = Q0.length := ⟨_, rfl⟩
      rw [← hC] at hf
      have HC := Lib.hid hC
      by_cases hz : x = 0
      · subst hz
        have e : Q0 = W := by rw [← hres]; simp [wlk]
        rw [e] at hO
        have HO := Lib.hid hO
        clear hres hO hC e hx0 hx1
        go_wp2_with (fail)
        simp only [Exit.jump]
        go_ret
        exact ⟨_, rfl, HO.out⟩
      · have hz2 : (x == 0) = false := by simpa using hz
        have hq : Q0.length ≤ 100000 := by omega
        have HO := Lib.hid hO; have HQ := Lib.hid hq; have HRS := Lib.hid hres; have HX := Lib.hid hz
        have hvn : ∃ A c, v = .slice A C c := by obtain ⟨A, c, e, _⟩ := hO.reads; exact ⟨A, c, by rw [e, hC]⟩
        have HV := Lib.hid hvn
        have hf' : (C : Int) ≤ 1000 := by omega
        clear hO hq hres hC hvn hz
        by_cases hf0 : f = 0
        · subst hf0
          have hlt : decide ((C : Int) + 1 < most) = false := by simp; omega
          have hlt2 : ¬ (C : Int) + 1 < most := by omega
          go_wp2_with (first
            | (at_builtin; refine append_int rfl _ _ 50 3 rfl Tryz.underlying50 info3 _ _ _ _ rfl HO.out rfl ?_ ?_ ?_; (exact HQ.out); (exact Nat.le_refl _); intro v' w5 HO5; obtain ⟨A', c', hv', _⟩ := HO5.reads; rw [List.length_append, ← HC.out] at hv'; subst hv'; have HP := Lib.hid HO5; clear HO5)
            | fail)
          simp only [Exit.jump]
          go_ret
          refine ⟨_, rfl, ?_⟩
          have hE : Q0 ++ [x] = W := by rw [← HRS.out]; unfold wlk; rw [if_neg HX.out]; rfl
          rw [← hE]; exact HP.out
        · obtain ⟨g, rfl⟩ : ∃ g, f = g + 1 := ⟨f - 1, by omega⟩
          have hlt : decide ((C : Int) + 1 < most) = true := by simp; omega
          have hlt2 : (C : Int) + 1 < most := by omega
          have HH := Lib.hid hf
          clear hf
          go_wp2_with (first
            | (at_builtin; refine append_int rfl _ _ 50 3 rfl Tryz.underlying50 info3 _ _ _ _ rfl HO.out rfl ?_ ?_ ?_; (exact HQ.out); (exact Nat.le_refl _); intro v' w5 HO5; obtain ⟨A', c', hv', _⟩ := HO5.reads; rw [List.length_append, ← HC.out] at hv'; subst hv'; have HP := Lib.hid HO5; clear HO5)
            | (go_at_call 99; (with_reducible refine (place_any _ _ (HL.out.below HP.out.bel) hx0 hx1).mono ?_); rintro r w6 ⟨rfl, hb⟩; have HP2 := Lib.hid (HP.out.step (Nat.le_refl _) hb); clear hb)
            | (go_at_call 98; (with_reducible refine (told_any A n cap L _ _ HN.out (HR.out.below HP2.out.bel (Nat.le_refl _)) HW.out).mono ?_); rintro r w7 ⟨rfl, hb⟩; have HP3 := Lib.hid (HP2.out.step (Nat.le_refl _) hb); clear hb)
            | fail)
          go_step3
          have hlr := low_rng (ldq L (atOf k.links x))
          refine ⟨rfl, HJ.out _ _ ⟨_, Q0 ++ [x], _, g, _, _, _, _, _, _, _, _, _, _, _, _, _, _, _, _, _, _, _, _, _, _, _, _, rfl, HP3.out, ?_, hlr.1, hlr.2, ?_⟩ ?_⟩
          · have := HH.out; have := HC.out; simp; omega
          · rw [← HRS.out]
            conv => rhs; unfold wlk
            rw [if_neg HX.out]; simp
          · obtain ⟨A2, c2, hv⟩ := HV.out
            subst hv
            have := HH.out
            show most.toNat - (C + 1) < most.toNat - C
            omega
    · intro JJ hrest
      go_wp2_with (first
        | (go_at_call 98; (with_reducible refine (told_any A n cap L k.head _ HN.out HR.out HW.out).mono ?_); rintro r w1 ⟨rfl, hb⟩)
        | fail)
      have hlr := low_rng (ldq L k.head)
      go_step3
      apply_assumption
      refine hrest _ _ ⟨_, [], _, most.toNat - 1, _, _, _, _, _, _, _, _, _, _, _, _, _, _, _, _, _, _, _, _, _, _, _, _, rfl, OwnI.nil hb, ?_, hlr.1, hlr.2, ?_⟩
      · have := H0.out; simp; omega
      · have := H0.out; rw [HWW.out, show most.toNat - 1 + 1 = most.toNat by omega]; rfl
end Go.Proofs.YtponbnbgiiepdaaGreat

namespace Go.Proofs.YtponbnbgiiepdaaGreat
open Go.RowKit
set_option linter.unusedVariables false
set_option linter.unusedSimpArgs false

abbrev kval (h : Int) (A : Option Addr) (n cap : Nat) : Value := .agg #[.int .i64 h, .slice A n cap]

set_option maxHeartbeats 1000000 in
theorem refAt_any (h : Int) (A : Option Addr) (n cap : Nat) (zs : List Int) (x : Int) (w : World) (hn : n = zs.length) (hR : Reads .i64 w A zs) (hl : n ≤ 1000000) (x0 : 0 ≤ x) (x1 : x ≤ 4294967295) :
    Calls Tryz.prog 117 #[kval h A n cap, .int .u32 x] w fun e w' => e = .returned (.int .i64 (atOf zs x)) ∧ Below w.heap.size w w' := by
  by_cases h1 : x < 1
  · have e : atOf zs x = -1 := by unfold atOf; rw [if_neg (by omega)]
    rw [e]
    have d1 : decide (x < 1) = true := by simpa using h1
    clear hR hl e hn
    go_enter Tryz.func117, Tryz.ntmps117
    go_wp2_with (fail)
    go_ret
    exact ⟨rfl, below_alloc0 (Below.refl _ _) _⟩
  · have d1 : decide (x < 1) = false := by simpa using h1
    by_cases h2 : (n : Int) < x
    · have e : atOf zs x = -1 := by unfold atOf; rw [if_neg (by omega)]
      rw [e]
      have d2 : decide (x > (n : Int)) = true := by simpa using h2
      clear hR hl e hn
      go_enter Tryz.func117, Tryz.ntmps117
      go_wp2_with (fail)
      go_ret
      exact ⟨rfl, below_alloc0 (Below.refl _ _) _⟩
    · have d2 : decide (x > (n : Int)) = false := by simpa using h2
      obtain ⟨i, hi⟩ : ∃ i : Nat, x - 1 = (i : Int) := ⟨(x - 1).toNat, by omega⟩
      have hi1 : i < n := by omega
      have e : atOf zs x = zs.getD i 0 := by unfold atOf; rw [if_pos (by omega), hi]; rfl
      rw [e]
      obtain ⟨b, off, rfl, hbl, hc2⟩ := hR (by omega)
      have c1 := hc2 i (by omega)
      have hi0 : (0 : Int) ≤ (i : Int) := by omega
      have hi2 : (i : Int) < (n : Int) := by omega
      obtain ⟨z, hzz⟩ : ∃ z, z = zs.getD i 0 := ⟨_, rfl⟩
      rw [← hzz] at c1 ⊢
      have c2 : (w.alloc (.cells #[.int .i64 h, .slice (some ⟨b, off, none⟩) n cap] 52)).cell? ⟨b, off + i, none⟩ = some (.int .i64 z) := ((below_alloc0 (Below.refl _ _) _).cell (p := ⟨b, off + i, none⟩) hbl).trans c1
      clear hR hc2 hl e hn hzz
      go_enter Tryz.func117, Tryz.ntmps117
      go_wp2_with (fail)
      go_ret
      exact ⟨rfl, below_alloc0 (Below.refl _ _) _⟩

def lenV : Value → Nat
  | .slice _ n _ => n
  | _ => 0
/-- Two cells of a box. -/
theorem box_kv {w : World} {h : Int} {A : Option Addr} {n cap : Nat} {w' : World} (hb : Below (w.heap.size + 1) (w.alloc (.cells #[.int .i64 h, .slice A n cap] 52)) w') :
    w'.cell? ⟨w.heap.size, 0, none⟩ = some (.int .i64 h) ∧ w'.cell? ⟨w.heap.size, 1, none⟩ = some (.slice A n cap) := by
  constructor
  · rw [hb.cell (p := ⟨w.heap.size, 0, none⟩) (by simp), World.cell?_alloc_at _ _ _ _ rfl]; rfl
  · rw [hb.cell (p := ⟨w.heap.size, 1, none⟩) (by simp), World.cell?_alloc_at _ _ _ _ rfl]; rfl

end Go.Proofs.YtponbnbgiiepdaaGreat
