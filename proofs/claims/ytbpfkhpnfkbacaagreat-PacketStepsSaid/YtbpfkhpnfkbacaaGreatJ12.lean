/- A machine's step, and what it tells, walked. A store of the call's own with links, and machines over it. -/
import Derived.Test.YtbpfkhpnfkbacaaGreatJ11
namespace Go.Proofs.YtbpfkhpnfkbacaaGreat
open Go.RowKit
set_option linter.unusedVariables false
set_option linter.unusedSimpArgs false
variable {w0 : World} {M S D Ab : Nat} {lv : Value} {m : Sm} {L : List Int} {c t : Int}

theorem eqin_fn (d f M : Nat) (w : World) : (Op.equalIn (d + 1) 91 (fnv f M) .nilFunc).run Tryz.prog w = .ok false w := by
  simp [Op.equalIn, run_underlying Tryz.underlying91]
theorem eqin_nil (d : Nat) (w : World) : (Op.equalIn (d + 1) 91 .nilFunc .nilFunc).run Tryz.prog w = .ok true w := by
  simp [Op.equalIn, run_underlying Tryz.underlying91]
@[go_sem] theorem eql_fn (f M : Nat) (w : World) : (binOp .eql 91 (fnv f M) .nilFunc).run Tryz.prog w = .ok (.bool false) w := by
  have h : (Op.equal 91 (fnv f M) .nilFunc).run Tryz.prog w = .ok false w := eqin_fn 9999 f M w
  simp only [binOp]
  simp [h]
@[go_sem] theorem eql_nil (w : World) : (binOp .eql 91 .nilFunc .nilFunc).run Tryz.prog w = .ok (.bool true) w := by
  have h : (Op.equal 91 .nilFunc .nilFunc).run Tryz.prog w = .ok true w := eqin_nil 9999 w
  simp only [binOp]
  simp [h]

def cst (m : Sm) (c : Int) : Int := if m.pc = 0 then c else c + 1
theorem cst_le (m : Sm) (c : Int) : c ≤ cst m c ∧ cst m c ≤ c + 1 := by unfold cst; split <;> omega
theorem Mi.nx {w : World} (h : Mi w0 w M S D lv Ab m L c) : w.cell? ⟨M, 3, none⟩ = some (nxt M m) := Mst.c3 h

theorem nfn_is (m : Sm) (P : Nat → Prop) (a0 : P 80) (a1 : P 100) (a2 : P 108) (a3 : P 78) (a4 : P 99) (a5 : P 107) : P (nfn m) := by
  unfold nfn
  repeat' split
  all_goals assumption
theorem enter_nfn (m : Sm) (a : Array Value) (w : World) : (callFunc (nfn m) a).run Tryz.prog w = .ok (.enter (nfn m) a) w := by
  refine nfn_is m (fun f => (callFunc f a).run Tryz.prog w = .ok (.enter f a) w) ?_ ?_ ?_ ?_ ?_ ?_ <;> simp [go_sem]

set_option maxHeartbeats 1000000 in
theorem step_on (w : World) (h : Mi w0 w M S D lv Ab m L c) (wm : Wm t m) (ww : WW L) (h0 : 0 ≤ c) (h1 : c ≤ 1000000000) (ht : t ≤ 1000000000) (hp : m.pc ≠ 0) :
    Calls Tryz.prog 131 #[ptr M, ptr S] w fun a w' => a = .returned (.bool (decide ((sstp L m).2.pc = 0))) ∧ Mi w0 w' M S D lv Ab (sstp L m).2 (sstp L m).1 (c + 1) := by
  have c4 := h.nx
  rw [nxt_at hp] at c4
  have HN := Lib.hid (next_any h hp wm ww h0 h1 ht)
  have hen := fun (a : Array Value) (w : World) => enter_nfn m a w
  generalize nfn m = f at c4 HN hen
  generalize sstp L m = z at HN ⊢
  obtain ⟨L', m'⟩ := z
  have HP := Lib.hid hp
  clear h hp wm ww
  by_cases hp' : m'.pc = 0
  · have e1 : decide (m'.pc = 0) = true := by simpa using hp'
    rw [e1]
    have HP' := Lib.hid hp'; clear hp' e1
    go_enter Tryz.func131, Tryz.ntmps131
    go_wp2_with (first
      | ((with_reducible refine HN.out.mono ?_); rintro r w1 ⟨rfl, hk⟩; have HK := Lib.hid hk; have d4 := hk.nx; rw [nxt_no HP'.out] at d4; clear hk)
      | fail)
    go_ret
    exact ⟨rfl, HK.out⟩
  · have e1 : decide (m'.pc = 0) = false := by simpa using hp'
    rw [e1]
    have HP' := Lib.hid hp'; clear hp' e1
    go_enter Tryz.func131, Tryz.ntmps131
    go_wp2_with (first
      | ((with_reducible refine HN.out.mono ?_); rintro r w1 ⟨rfl, hk⟩; have HK := Lib.hid hk; have d4 := hk.nx; rw [nxt_at HP'.out] at d4; clear hk)
      | fail)
    go_ret
    exact ⟨rfl, HK.out⟩

set_option maxHeartbeats 1000000 in
theorem step_off (w : World) (h : Mi w0 w M S D lv Ab m L c) (hp : m.pc = 0) :
    Calls Tryz.prog 131 #[ptr M, ptr S] w fun a w' => a = .returned (.bool true) ∧ w = w' := by
  have c4 := h.nx
  rw [nxt_no hp] at c4
  clear h hp
  go_enter Tryz.func131, Tryz.ntmps131
  go_wp2
  go_ret
  exact ⟨rfl, rfl⟩
/-- A step. -/
theorem step_any (w : World) (h : Mi w0 w M S D lv Ab m L c) (wm : Wm t m) (ww : WW L) (h0 : 0 ≤ c) (h1 : c ≤ 1000000000) (ht : t ≤ 1000000000) :
    Calls Tryz.prog 131 #[ptr M, ptr S] w fun a w' => a = .returned (.bool (decide ((sstp L m).2.pc = 0))) ∧ Mi w0 w' M S D lv Ab (sstp L m).2 (sstp L m).1 (cst m c) := by
  by_cases hp : m.pc = 0
  · rw [sstp_no hp]
    refine (step_off w h hp).mono ?_
    rintro a w' ⟨rfl, rfl⟩
    exact ⟨by simp [hp], by simpa [cst, hp] using h⟩
  · refine (step_on w h wm ww h0 h1 ht hp).mono ?_
    rintro a w' ⟨rfl, hk⟩
    exact ⟨rfl, by simpa [cst, hp] using hk⟩
set_option maxHeartbeats 1000000 in
theorem step_nil (v : Value) (w : World) : Calls Tryz.prog 131 #[.pointer none, v] w fun a w' => a = .returned (.bool true) ∧ w = w' := by
  go_enter Tryz.func131, Tryz.ntmps131
  go_wp2
  go_ret
  exact ⟨rfl, rfl⟩

/-- A machine in memory, by itself. -/
def MM (w : World) (M : Nat) (lv : Value) (m : Sm) : Prop := Mem w M lv m.k.head (fnv (ffn m) M) (nxt M m) m.h m.item m.link (sItem m) m.tries
theorem MM.lt {w : World} (h : MM w M lv m) : M < w.heap.size := (Array.getElem?_eq_some_iff.1 h).1
theorem MM.u3 {w w' : World} {M' : Nat} (h : MM w M lv m) (u : U3 M' S D w w') (n0 : M ≠ M') (n1 : M ≠ S) (n2 : M ≠ D) : MM w' M lv m :=
  (u.block M h.lt n0 n1 n2).trans h
theorem MM.below {w w' : World} (h : MM w M lv m) (hb : Below w.heap.size w w') : MM w' M lv m := (hb.block M h.lt).trans h
theorem MM.mi {w : World} (h : MM w M lv m) (hs : St w S D L c) (hl : Lk w lv Ab m.k.links) (n1 : M ≠ S) (n2 : M ≠ D) (b2 : Ab ≠ M ∧ Ab ≠ S ∧ Ab ≠ D) : Mi w w M S D lv Ab m L c :=
  ⟨h, hs, n1, n2, hl, b2, .refl _ _ _ _⟩
theorem Mi.mm {w : World} (h : Mi w0 w M S D lv Ab m L c) : MM w M lv m := h.mem
theorem Mi.st' {w : World} (h : Mi w0 w M S D lv Ab m L c) : St w S D L c := h.st
theorem Mi.u' {w : World} (h : Mi w0 w M S D lv Ab m L c) : U3 M S D w0 w := h.u
theorem Mi.lk' {w : World} (h : Mi w0 w M S D lv Ab m L c) : Lk w lv Ab m.k.links := h.lk

set_option maxHeartbeats 1000000 in
theorem item_any (w : World) (h : MM w M lv m) (wm : Wm t m) : Calls Tryz.prog 130 #[ptr M] w fun a w' => a = .returned (.int .i64 (sItem m)) ∧ w = w' := by
  have c7 : w.cell? ⟨M, 7, none⟩ = some (.int .u32 (sItem m)) := by unfold MM Mem at h; simp [World.cell?, h]
  have i0 : 0 ≤ sItem m ∧ sItem m ≤ 4294967295 := by have := wm.i; unfold sItem; split <;> omega
  obtain ⟨y, hy⟩ : ∃ y, y = sItem m := ⟨_, rfl⟩
  rw [← hy] at c7 i0 ⊢
  obtain ⟨y0, y1⟩ := i0
  clear h hy wm
  go_enter Tryz.func130, Tryz.ntmps130
  go_wp2
  go_ret
  exact ⟨rfl, rfl⟩
set_option maxHeartbeats 1000000 in
theorem item_nil (w : World) : Calls Tryz.prog 130 #[.pointer none] w fun a w' => a = .returned (.int .i64 0) ∧ w = w' := by
  go_enter Tryz.func130, Tryz.ntmps130
  go_wp2
  go_ret
  exact ⟨rfl, rfl⟩
/-- How many accesses there were. -/
theorem cnt_any (w : World) (h : St w S D L c) : Calls Tryz.prog 19 #[ptr S] w fun a w' => a = .returned (.int .i64 c) ∧ w = w' := by
  have hc := h.many
  clear h
  go_enter Tryz.func19, Tryz.ntmps19
  go_wp2
  go_ret
  exact ⟨rfl, rfl⟩

/-- A machine in new memory. -/
def NewM (w : World) (lv : Value) (m : Sm) (a : Ending) (w' : World) : Prop := ∃ M, a = .returned (ptr M) ∧ w.heap.size ≤ M ∧ MM w' M lv m ∧ Below w.heap.size w w'

set_option maxHeartbeats 1000000 in
theorem numbered_any (x : Int) (w : World) (hx : -9223372036854775808 ≤ x ∧ x ≤ 9223372036854775807) : Calls Tryz.prog 79 #[.int .i64 x] w fun a w' => a = .returned (.int .u32 (itemOf x)) ∧ w = w' := by
  by_cases h1 : x < 1
  · have e : itemOf x = 0 := by unfold itemOf; rw [if_pos (.inl h1)]
    rw [e]; clear e
    go_enter Tryz.func79, Tryz.ntmps79
    go_wp2
    go_ret
    exact ⟨rfl, rfl⟩
  · by_cases h2 : 4294967295 < x
    · have e : itemOf x = 0 := by unfold itemOf; rw [if_pos (.inr h2)]
      rw [e]; clear e
      go_enter Tryz.func79, Tryz.ntmps79
      go_wp2
      go_ret
      exact ⟨rfl, rfl⟩
    · have e : itemOf x = x := by unfold itemOf; rw [if_neg (by omega)]
      rw [e]; clear e
      go_enter Tryz.func79, Tryz.ntmps79
      go_wp2
      go_ret
      exact ⟨rfl, rfl⟩
theorem new_m (w : World) (k : Sk) (x : Int) (g kd : Nat) (hg : kd = 1 ∧ g = 80 ∨ kd = 2 ∧ g = 78) :
    NewM w lv ⟨kd, 1, k, x, 0, 0, 0⟩ (.returned (ptr w.heap.size)) (w.alloc (.cells #[.int .i64 k.head, lv, fnv g w.heap.size, fnv g w.heap.size, .int .u64 0, .int .u32 x, .int .u32 0, .int .u32 0, .int .i64 0] 118)) := by
  refine ⟨w.heap.size, rfl, Nat.le_refl _, ?_, below_alloc0 (Below.refl _ _) _⟩
  have e1 : nxt w.heap.size ⟨kd, 1, k, x, 0, 0, 0⟩ = fnv g w.heap.size := by rcases hg with ⟨rfl, rfl⟩ | ⟨rfl, rfl⟩ <;> simp [nxt, nfn]
  have e2 : ffn ⟨kd, 1, k, x, 0, 0, 0⟩ = g := by rcases hg with ⟨rfl, rfl⟩ | ⟨rfl, rfl⟩ <;> simp [ffn]
  unfold MM Mem
  rw [e1, e2]
  show (w.heap.push _)[w.heap.size]? = _
  simp [sItem]
set_option maxHeartbeats 1000000 in
theorem push_any {zs : List Int} (k : Sk) (x : Int) (w : World) (hl : Lk w lv Ab zs) (hx : -9223372036854775808 ≤ x ∧ x ≤ 9223372036854775807) : Calls Tryz.prog 55 #[.int .i64 k.head, lv, .int .i64 x] w (NewM w lv (mPush k x)) := by
  have hmf : ∀ (fn : Fn) (first cap : Array Value) (w : World), (Instr.makeFunc fn first cap).run Tryz.prog w = .ok (.func fn first cap) w := fun _ _ _ _ => rfl
  obtain ⟨c, _, _, hr⟩ := hl
  rcases hr with ⟨rfl, _⟩ | ⟨rfl, _⟩
  · go_enter Tryz.func55, Tryz.ntmps55
    go_wp2_with (first
      | (go_at_call 79; (with_reducible refine (numbered_any _ _ hx).mono ?_); rintro r w1 ⟨rfl, hw⟩; cases hw)
      | fail)
    go_ret
    exact new_m w k (itemOf x) 80 1 (.inl ⟨rfl, rfl⟩)
  · go_enter Tryz.func55, Tryz.ntmps55
    go_wp2_with (first
      | (go_at_call 79; (with_reducible refine (numbered_any _ _ hx).mono ?_); rintro r w1 ⟨rfl, hw⟩; cases hw)
      | fail)
    go_ret
    exact new_m w k (itemOf x) 80 1 (.inl ⟨rfl, rfl⟩)
set_option maxHeartbeats 1000000 in
theorem pop_any {zs : List Int} (k : Sk) (w : World) (hl : Lk w lv Ab zs) : Calls Tryz.prog 53 #[.int .i64 k.head, lv] w (NewM w lv (mPop k)) := by
  have hmf : ∀ (fn : Fn) (first cap : Array Value) (w : World), (Instr.makeFunc fn first cap).run Tryz.prog w = .ok (.func fn first cap) w := fun _ _ _ _ => rfl
  obtain ⟨c, _, _, hr⟩ := hl
  rcases hr with ⟨rfl, _⟩ | ⟨rfl, _⟩
  · go_enter Tryz.func53, Tryz.ntmps53
    go_wp2
    go_ret
    exact new_m w k 0 78 2 (.inr ⟨rfl, rfl⟩)
  · go_enter Tryz.func53, Tryz.ntmps53
    go_wp2
    go_ret
    exact new_m w k 0 78 2 (.inr ⟨rfl, rfl⟩)
theorem wm_push (k : Sk) (x : Int) : Wm 0 (mPush k x) := by
  refine ⟨.inl rfl, (by simp [mPush]), (by simp [mPush]), ?_, (by simp [mPush]), (by simp [mPush])⟩
  simp only [mPush]; unfold itemOf; split <;> omega
theorem wm_pop (k : Sk) : Wm 0 (mPop k) := ⟨.inr rfl, (by simp [mPop]), (by simp [mPop]), (by simp [mPop]), (by simp [mPop]), (by simp [mPop])⟩
end Go.Proofs.YtbpfkhpnfkbacaaGreat

namespace Go.Proofs.YtbpfkhpnfkbacaaGreat
open Go.RowKit
set_option linter.unusedVariables false
set_option linter.unusedSimpArgs false
variable {B S D Ab M : Nat} {lv : Value} {w0 w w' : World} {zs L : List Int} {k t : Int} {m : Sm}

theorem sstp_k (L : List Int) (m : Sm) : (sstp L m).2.k = m.k := by
  unfold sstp swapS
  repeat' (first | rfl | refine ite_ind (P := fun z : List Int × Sm => z.2.k = m.k) ?_ ?_)

/-- A store of the call's own; k: how many accesses there were at most. -/
structure Ok (B S D : Nat) (lv : Value) (Ab : Nat) (w0 w : World) (zs L : List Int) (k : Int) : Prop where
  own : ∃ c, 0 ≤ c ∧ c ≤ k ∧ Own B S D w0 w L c
  lk : Lk w lv Ab zs
  b2 : Ab ≠ S ∧ Ab ≠ D
  ww : WW L
/-- A block apart from it. -/
def Ap (B S D Ab M : Nat) : Prop := B ≤ M ∧ M ≠ S ∧ M ≠ D ∧ M ≠ Ab
theorem Ok.bel (h : Ok B S D lv Ab w0 w zs L k) : Below B w0 w := by obtain ⟨c, _, _, h⟩ := h.own; exact h.bel
theorem Ok.ltS (h : Ok B S D lv Ab w0 w zs L k) : S < w.heap.size ∧ D < w.heap.size := by obtain ⟨c, _, _, h⟩ := h.own; exact ⟨h.st.ltS, h.st.row.lt⟩
theorem Ok.lo (h : Ok B S D lv Ab w0 w zs L k) : B ≤ S ∧ B ≤ D ∧ B ≤ w0.heap.size := by obtain ⟨c, _, _, h⟩ := h.own; exact ⟨h.1, h.2.1, h.2.2.1⟩
theorem Ok.new (h : Ok B S D lv Ab w0 w zs L k) (hM : w.heap.size ≤ M) : Ap B S D Ab M := by
  have := h.ltS; have := h.lk.lt; have := h.lo; have := h.bel.size
  exact ⟨by omega, by omega, by omega, by omega⟩
theorem Ok.step (h : Ok B S D lv Ab w0 w zs L k) (hb : Below w.heap.size w w') : Ok B S D lv Ab w0 w' zs L k := by
  obtain ⟨c, h0, h1, o⟩ := h.own
  exact ⟨⟨c, h0, h1, o.step hb⟩, h.lk.below hb, h.b2, h.ww⟩
theorem Ok.more (h : Ok B S D lv Ab w0 w zs L k) {k' : Int} (hk : k ≤ k') : Ok B S D lv Ab w0 w zs L k' := by
  obtain ⟨c, h0, h1, o⟩ := h.own
  exact ⟨⟨c, h0, by omega, o⟩, h.lk, h.b2, h.ww⟩
/-- Another block changes. -/
theorem Ok.upd (h : Ok B S D lv Ab w0 w zs L k) {b : Nat} (u : Upd b b w w') (a : Ap B S D Ab b) : Ok B S D lv Ab w0 w' zs L k := by
  obtain ⟨c, h0, h1, o⟩ := h.own
  obtain ⟨a0, a1, a2, a4⟩ := a
  refine ⟨⟨c, h0, h1, o.1, o.2.1, o.2.2.1, o.st.upd u (Ne.symm a1) (Ne.symm a1) (Ne.symm a2) (Ne.symm a2), below_upd o.bel o.2.2.1 u a0 a0⟩, ?_, h.b2, h.ww⟩
  exact h.lk.keep u.size (u.block Ab h.lk.lt (Ne.symm a4) (Ne.symm a4))
theorem Ok.mi (h : Ok B S D lv Ab w0 w zs L k) (hm : MM w M lv m) (a : Ap B S D Ab M) (hz : m.k.links = zs) : ∃ c, 0 ≤ c ∧ c ≤ k ∧ Mi w w M S D lv Ab m L c := by
  obtain ⟨c, h0, h1, o⟩ := h.own
  obtain ⟨a0, a1, a2, a4⟩ := a
  exact ⟨c, h0, h1, hm.mi o.st (by rw [hz]; exact h.lk) a1 a2 ⟨Ne.symm a4, h.b2.1, h.b2.2⟩⟩
theorem Ok.of_mi (h : Ok B S D lv Ab w0 w zs L k) (a : Ap B S D Ab M) {L' : List Int} {c' k' : Int} {m' : Sm} (hz : m'.k.links = zs) (hm : Mi w w' M S D lv Ab m' L' c') (h0 : 0 ≤ c') (h1 : c' ≤ k') (ww : WW L') : Ok B S D lv Ab w0 w' zs L' k' := by
  obtain ⟨c, _, _, o⟩ := h.own
  have l := hm.lk'
  rw [hz] at l
  exact ⟨⟨c', h0, h1, o.1, o.2.1, o.2.2.1, hm.st', below_u3 o.bel o.2.2.1 hm.u' a.1 o.1 o.2.1⟩, l, h.b2, ww⟩

/-- A machine goes on by a step; others stay as they are. -/
theorem step_ok (h : Ok B S D lv Ab w0 w zs L k) (hm : MM w M lv m) (a : Ap B S D Ab M) (hz : m.k.links = zs) (wm : Wm t m) (hk : k ≤ 900000000) (ht : t ≤ 900000000) :
    Calls Tryz.prog 131 #[ptr M, ptr S] w fun e w' => e = .returned (.bool (decide ((sstp L m).2.pc = 0))) ∧ Ok B S D lv Ab w0 w' zs (sstp L m).1 (k + 1) ∧ MM w' M lv (sstp L m).2 ∧ U3 M S D w w' := by
  obtain ⟨c, h0, h1, mi⟩ := h.mi hm a hz
  refine (step_any w mi wm h.ww h0 (by omega) (by omega)).mono ?_
  rintro e w1 ⟨rfl, mi'⟩
  have := cst_le m c
  exact ⟨rfl, h.of_mi a (by rw [sstp_k]; exact hz) mi' (k' := k + 1) (by omega) (by omega) (h.ww.step wm), mi'.mm, mi'.u'⟩
theorem load_ok (h : Ok B S D lv Ab w0 w zs L k) (at' : Int) (hk : k ≤ 900000000) :
    Calls Tryz.prog 61 #[ptr S, .int .i64 at'] w fun a w' => a = .returned (.int .u64 (ldq L at')) ∧ Ok B S D lv Ab w0 w' zs L (k + 1) ∧ Upd S D w w' := by
  obtain ⟨c, h0, h1, o⟩ := h.own
  refine (load_any at' w o.st h0 (by omega)).mono ?_
  rintro a w1 ⟨rfl, l⟩
  exact ⟨by rw [ldv_eq], ⟨⟨c + 1, by omega, by omega, o.left l⟩, h.lk.u3 (M := S) (.of_upd l.2) ⟨h.b2.1, h.b2⟩, h.b2, h.ww⟩, l.2⟩
theorem put_ok (h : Ok B S D lv Ab w0 w zs L k) (at' v : Int) (hv : 0 ≤ v ∧ v ≤ 18446744073709551615) (hk : k ≤ 900000000) :
    Calls Tryz.prog 25 #[ptr S, .int .i64 at', .int .u64 v] w fun a w' => a = .returned (.tuple #[]) ∧ Ok B S D lv Ab w0 w' zs (ptq L at' v) (k + 1) ∧ Upd S D w w' := by
  obtain ⟨c, h0, h1, o⟩ := h.own
  refine (put_any at' v w o.st h0 (by omega)).mono ?_
  rintro a w1 ⟨rfl, l⟩
  rw [ptv_eq] at l
  exact ⟨rfl, ⟨⟨c + 1, by omega, by omega, o.left l⟩, h.lk.u3 (M := S) (.of_upd l.2) ⟨h.b2.1, h.b2⟩, h.b2, h.ww.put _ hv⟩, l.2⟩
theorem all_ok (h : Ok B S D lv Ab w0 w zs L k) (hl : L.length ≤ 1000000) :
    Calls Tryz.prog 13 #[ptr S] w fun a w' => a = .returned (.slice (some ⟨w.heap.size, 0, none⟩) L.length L.length) ∧ Row w' w.heap.size L ∧ Ok B S D lv Ab w0 w' zs L k ∧ Below w.heap.size w w' := by
  obtain ⟨c, h0, h1, o⟩ := h.own
  refine (all_any w o.st hl).mono ?_
  rintro a w1 ⟨rfl, hr, hb⟩
  exact ⟨rfl, hr, h.step hb, hb⟩
/-- The store is new; the links are elder. -/
theorem Ok.start {L : List Int} {a : Ending} (hb : Below B w0 w) (hB : B ≤ w0.heap.size) (hl : Lk w lv Ab zs) (ww : WW L) (h : SomeNew w L a w') : ∃ S D, a = .returned (ptr S) ∧ Ok B S D lv Ab w0 w' zs L 0 ∧ w.heap.size ≤ S ∧ w.heap.size ≤ D := by
  obtain ⟨S, D, rfl, hS, hD, hs, hb'⟩ := h
  have := hl.lt
  exact ⟨S, D, rfl, ⟨⟨0, by omega, by omega, Own.of_new hb hB hS hD hs hb'⟩, hl.below hb', by omega, ww⟩, hS, hD⟩
theorem sruns_succ (k : Nat) (L : List Int) (m : Sm) : sruns (k + 1) L m = sruns k (sstp L m).1 (sstp L m).2 := rfl
theorem sstp_sruns (k : Nat) : ∀ (L : List Int) (m : Sm), sstp (sruns k L m).1 (sruns k L m).2 = sruns (k + 1) L m := by
  induction k with
  | zero => intro L m; rfl
  | succ k ih => intro L m; rw [sruns_succ, ih, ← sruns_succ]
theorem sruns_k (k : Nat) : ∀ (L : List Int) (m : Sm), (sruns k L m).2.k = m.k := by
  induction k with
  | zero => intro L m; rfl
  | succ k ih => intro L m; rw [sruns_succ, ih, sstp_k]
theorem sruns_w (k : Nat) : ∀ {L : List Int} {m : Sm} {t : Int}, WW L → Wm t m → WW (sruns k L m).1 ∧ Wm (t + k) (sruns k L m).2 := by
  induction k with
  | zero => intro L m t h h2; exact ⟨h, (show Wm (t + ((0 : Nat) : Int)) m from h2.mono (by omega))⟩
  | succ k ih =>
    intro L m t h h2
    rw [sruns_succ]
    have := ih (h.step h2) (h2.step h)
    exact ⟨this.1, this.2.mono (by omega)⟩
attribute [local irreducible] sruns

/-- A machine that has gone on for i steps. -/
structure On (B S D : Nat) (lv : Value) (Ab M : Nat) (w0 w1 w : World) (zs L : List Int) (m : Sm) (i : Nat) (k : Int) : Prop where
  ok : Ok B S D lv Ab w0 w zs (sruns i L m).1 (k + i)
  mm : MM w M lv (sruns i L m).2
  u : U3 M S D w1 w
theorem On.start (h : Ok B S D lv Ab w0 w zs L k) (hm : MM w M lv m) : On B S D lv Ab M w0 w w zs L m 0 k := by
  refine ⟨?_, ?_, .refl _ _ _ _⟩
  · unfold sruns; simpa using h
  · unfold sruns; exact hm
theorem on_step {w1 : World} {i : Nat} (h : On B S D lv Ab M w0 w1 w zs L m i k) (a : Ap B S D Ab M) (hz : m.k.links = zs) (wm : Wm t m) (ww : WW L) (hk : k + i ≤ 900000000) (ht : t + i ≤ 900000000) :
    Calls Tryz.prog 131 #[ptr M, ptr S] w fun e w' => e = .returned (.bool (decide ((sruns (i + 1) L m).2.pc = 0))) ∧ On B S D lv Ab M w0 w1 w' zs L m (i + 1) k := by
  refine (step_ok h.ok h.mm a (by rw [sruns_k]; exact hz) (sruns_w i ww wm).2 hk ht).mono ?_
  rintro e w' ⟨rfl, h1, h2, h3⟩
  rw [sstp_sruns] at h1 h2 ⊢
  exact ⟨rfl, h1.more (by omega), h2, h.u.trans h3⟩

/-- A step of one that is finished. -/
theorem step_end (h : MM w M lv m) (hp : m.pc = 0) (v : Value) : Calls Tryz.prog 131 #[ptr M, v] w fun e w' => e = .returned (.bool true) ∧ w = w' := by
  have c4 : w.cell? ⟨M, 3, none⟩ = some (nxt M m) := by unfold MM Mem at h; simp [World.cell?, h]
  rw [nxt_no hp] at c4
  clear h hp
  go_enter Tryz.func131, Tryz.ntmps131
  go_wp2
  go_ret
  exact ⟨rfl, rfl⟩
end Go.Proofs.YtbpfkhpnfkbacaaGreat
