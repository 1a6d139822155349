/- A store of the call's own with links, and machines over it. -/
import Derived.Test.YtbpkcoemehmpbaaJ12
namespace Go.Proofs.Ytbpkcoemehmpbaa
open Go.RowKit
set_option linter.unusedVariables false
set_option linter.unusedSimpArgs false
variable {B S D Ab M : Nat} {lv : Value} {w0 w w' : World} {zs L : List Int} {k t : Int} {m : Sm}

theorem sstp_k (L : List Int) (m : Sm) : (sstp L m).2.k = m.k := by
  unfold sstp swapS
  repeat' (first | rfl | refine ite_ind (P := fun z : List Int × Sm => z.2.k = m.k) ?_ ?_)

/-- A store of the call's own; k: how many accesses there were at most. -/
structure Ok (B S D : Nat) (lv : Value) (Ab : Nat) (w0 w : World) (zs L : List Int) (k : Int) : Prop where
  own : ∃ c, 0 ≤ c ∧ c ≤ k ∧ Own B S D w0 w L c
  lk : Lk w lv Ab zs
  b2 : Ab ≠ S ∧ Ab ≠ D
  ww : WW L
/-- A block apart from it. -/
def Ap (B S D Ab M : Nat) : Prop := B ≤ M ∧ M ≠ S ∧ M ≠ D ∧ M ≠ Ab
theorem Ok.bel (h : Ok B S D lv Ab w0 w zs L k) : Below B w0 w := by obtain ⟨c, _, _, h⟩ := h.own; exact h.bel
theorem Ok.ltS (h : Ok B S D lv Ab w0 w zs L k) : S < w.heap.size ∧ D < w.heap.size := by obtain ⟨c, _, _, h⟩ := h.own; exact ⟨h.st.ltS, h.st.row.lt⟩
theorem Ok.lo (h : Ok B S D lv Ab w0 w zs L k) : B ≤ S ∧ B ≤ D ∧ B ≤ w0.heap.size := by obtain ⟨c, _, _, h⟩ := h.own; exact ⟨h.1, h.2.1, h.2.2.1⟩
theorem Ok.new (h : Ok B S D lv Ab w0 w zs L k) (hM : w.heap.size ≤ M) : Ap B S D Ab M := by
  have := h.ltS; have := h.lk.lt; have := h.lo; have := h.bel.size
  exact ⟨by omega, by omega, by omega, by omega⟩
theorem Ok.step (h : Ok B S D lv Ab w0 w zs L k) (hb : Below w.heap.size w w') : Ok B S D lv Ab w0 w' zs L k := by
  obtain ⟨c, h0, h1, o⟩ := h.own
  exact ⟨⟨c, h0, h1, o.step hb⟩, h.lk.below hb, h.b2, h.ww⟩
theorem Ok.more (h : Ok B S D lv Ab w0 w zs L k) {k' : Int} (hk : k ≤ k') : Ok B S D lv Ab w0 w zs L k' := by
  obtain ⟨c, h0, h1, o⟩ := h.own
  exact ⟨⟨c, h0, by omega, o⟩, h.lk, h.b2, h.ww⟩
/-- Another block changes. -/
theorem Ok.upd (h : Ok B S D lv Ab w0 w zs L k) {b : Nat} (u : Upd b b w w') (a : Ap B S D Ab b) : Ok B S D lv Ab w0 w' zs L k := by
  obtain ⟨c, h0, h1, o⟩ := h.own
  obtain ⟨a0, a1, a2, a4⟩ := a
  refine ⟨⟨c, h0, h1, o.1, o.2.1, o.2.2.1, o.st.upd u (Ne.symm a1) (Ne.symm a1) (Ne.symm a2) (Ne.symm a2), below_upd o.bel o.2.2.1 u a0 a0⟩, ?_, h.b2, h.ww⟩
  exact h.lk.keep u.size (u.block Ab h.lk.lt (Ne.symm a4) (Ne.symm a4))
theorem Ok.mi (h : Ok B S D lv Ab w0 w zs L k) (hm : MM w M lv m) (a : Ap B S D Ab M) (hz : m.k.links = zs) : ∃ c, 0 ≤ c ∧ c ≤ k ∧ Mi w w M S D lv Ab m L c := by
  obtain ⟨c, h0, h1, o⟩ := h.own
  obtain ⟨a0, a1, a2, a4⟩ := a
  exact ⟨c, h0, h1, hm.mi o.st (by rw [hz]; exact h.lk) a1 a2 ⟨Ne.symm a4, h.b2.1, h.b2.2⟩⟩
theorem Ok.of_mi (h : Ok B S D lv Ab w0 w zs L k) (a : Ap B S D Ab M) {L' : List Int} {c' k' : Int} {m' : Sm} (hz : m'.k.links = zs) (hm : Mi w w' M S D lv Ab m' L' c') (h0 : 0 ≤ c') (h1 : c' ≤ k') (ww : WW L') : Ok B S D lv Ab w0 w' zs L' k' := by
  obtain ⟨c, _, _, o⟩ := h.own
  have l := hm.lk'
  rw [hz] at l
  exact ⟨⟨c', h0, h1, o.1, o.2.1, o.2.2.1, hm.st', below_u3 o.bel o.2.2.1 hm.u' a.1 o.1 o.2.1⟩, l, h.b2, ww⟩

/-- A machine goes on by a step; others stay as they are. -/
theorem step_ok (h : Ok B S D lv Ab w0 w zs L k) (hm : MM w M lv m) (a : Ap B S D Ab M) (hz : m.k.links = zs) (wm : Wm t m) (hk : k ≤ 900000000) (ht : t ≤ 900000000) :
    Calls Try.prog 84 #[ptr M, ptr S] w fun e w' => e = .returned (.bool (decide ((sstp L m).2.pc = 0))) ∧ Ok B S D lv Ab w0 w' zs (sstp L m).1 (k + 1) ∧ MM w' M lv (sstp L m).2 ∧ U3 M S D w w' := by
  obtain ⟨c, h0, h1, mi⟩ := h.mi hm a hz
  refine (step_any w mi wm h.ww h0 (by omega) (by omega)).mono ?_
  rintro e w1 ⟨rfl, mi'⟩
  have := cst_le m c
  exact ⟨rfl, h.of_mi a (by rw [sstp_k]; exact hz) mi' (k' := k + 1) (by omega) (by omega) (h.ww.step wm), mi'.mm, mi'.u'⟩
theorem load_ok (h : Ok B S D lv Ab w0 w zs L k) (at' : Int) (hk : k ≤ 900000000) :
    Calls Try.prog 23 #[ptr S, .int .i64 at'] w fun a w' => a = .returned (.int .u64 (ldq L at')) ∧ Ok B S D lv Ab w0 w' zs L (k + 1) ∧ Upd S D w w' := by
  obtain ⟨c, h0, h1, o⟩ := h.own
  refine (load_any at' w o.st h0 (by omega)).mono ?_
  rintro a w1 ⟨rfl, l⟩
  exact ⟨by rw [ldv_eq], ⟨⟨c + 1, by omega, by omega, o.left l⟩, h.lk.u3 (M := S) (.of_upd l.2) ⟨h.b2.1, h.b2⟩, h.b2, h.ww⟩, l.2⟩
theorem put_ok (h : Ok B S D lv Ab w0 w zs L k) (at' v : Int) (hv : 0 ≤ v ∧ v ≤ 18446744073709551615) (hk : k ≤ 900000000) :
    Calls Try.prog 10 #[ptr S, .int .i64 at', .int .u64 v] w fun a w' => a = .returned (.tuple #[]) ∧ Ok B S D lv Ab w0 w' zs (ptq L at' v) (k + 1) ∧ Upd S D w w' := by
  obtain ⟨c, h0, h1, o⟩ := h.own
  refine (put_any at' v w o.st h0 (by omega)).mono ?_
  rintro a w1 ⟨rfl, l⟩
  rw [ptv_eq] at l
  exact ⟨rfl, ⟨⟨c + 1, by omega, by omega, o.left l⟩, h.lk.u3 (M := S) (.of_upd l.2) ⟨h.b2.1, h.b2⟩, h.b2, h.ww.put _ hv⟩, l.2⟩
theorem all_ok (h : Ok B S D lv Ab w0 w zs L k) (hl : L.length ≤ 1000000) :
    Calls Try.prog 12 #[ptr S] w fun a w' => a = .returned (.slice (some ⟨w.heap.size, 0, none⟩) L.length L.length) ∧ Row w' w.heap.size L ∧ Ok B S D lv Ab w0 w' zs L k ∧ Below w.heap.size w w' := by
  obtain ⟨c, h0, h1, o⟩ := h.own
  refine (all_any w o.st hl).mono ?_
  rintro a w1 ⟨rfl, hr, hb⟩
  exact ⟨rfl, hr, h.step hb, hb⟩
/-- The store is new; the links are elder. -/
theorem Ok.start {L : List Int} {a : Ending} (hb : Below B w0 w) (hB : B ≤ w0.heap.size) (hl : Lk w lv Ab zs) (ww : WW L) (h : SomeNew w L a w') : ∃ S D, a = .returned (ptr S) ∧ Ok B S D lv Ab w0 w' zs L 0 ∧ w.heap.size ≤ S ∧ w.heap.size ≤ D := by
  obtain ⟨S, D, rfl, hS, hD, hs, hb'⟩ := h
  have := hl.lt
  exact ⟨S, D, rfl, ⟨⟨0, by omega, by omega, Own.of_new hb hB hS hD hs hb'⟩, hl.below hb', by omega, ww⟩, hS, hD⟩
theorem sruns_succ (k : Nat) (L : List Int) (m : Sm) : sruns (k + 1) L m = sruns k (sstp L m).1 (sstp L m).2 := rfl
theorem sstp_sruns (k : Nat) : ∀ (L : List Int) (m : Sm), sstp (sruns k L m).1 (sruns k L m).2 = sruns (k + 1) L m := by
  induction k with
  | zero => intro L m; rfl
  | succ k ih => intro L m; rw [sruns_succ, ih, ← sruns_succ]
theorem sruns_k (k : Nat) : ∀ (L : List Int) (m : Sm), (sruns k L m).2.k = m.k := by
  induction k with
  | zero => intro L m; rfl
  | succ k ih => intro L m; rw [sruns_succ, ih, sstp_k]
theorem sruns_w (k : Nat) : ∀ {L : List Int} {m : Sm} {t : Int}, WW L → Wm t m → WW (sruns k L m).1 ∧ Wm (t + k) (sruns k L m).2 := by
  induction k with
  | zero => intro L m t h h2; exact ⟨h, (show Wm (t + ((0 : Nat) : Int)) m from h2.mono (by omega))⟩
  | succ k ih =>
    intro L m t h h2
    rw [sruns_succ]
    have := ih (h.step h2) (h2.step h)
    exact ⟨this.1, this.2.mono (by omega)⟩
attribute [local irreducible] sruns

/-- A machine that has gone on for i steps. -/
structure On (B S D : Nat) (lv : Value) (Ab M : Nat) (w0 w1 w : World) (zs L : List Int) (m : Sm) (i : Nat) (k : Int) : Prop where
  ok : Ok B S D lv Ab w0 w zs (sruns i L m).1 (k + i)
  mm : MM w M lv (sruns i L m).2
  u : U3 M S D w1 w
theorem On.start (h : Ok B S D lv Ab w0 w zs L k) (hm : MM w M lv m) : On B S D lv Ab M w0 w w zs L m 0 k := by
  refine ⟨?_, ?_, .refl _ _ _ _⟩
  · unfold sruns; simpa using h
  · unfold sruns; exact hm
theorem on_step {w1 : World} {i : Nat} (h : On B S D lv Ab M w0 w1 w zs L m i k) (a : Ap B S D Ab M) (hz : m.k.links = zs) (wm : Wm t m) (ww : WW L) (hk : k + i ≤ 900000000) (ht : t + i ≤ 900000000) :
    Calls Try.prog 84 #[ptr M, ptr S] w fun e w' => e = .returned (.bool (decide ((sruns (i + 1) L m).2.pc = 0))) ∧ On B S D lv Ab M w0 w1 w' zs L m (i + 1) k := by
  refine (step_ok h.ok h.mm a (by rw [sruns_k]; exact hz) (sruns_w i ww wm).2 hk ht).mono ?_
  rintro e w' ⟨rfl, h1, h2, h3⟩
  rw [sstp_sruns] at h1 h2 ⊢
  exact ⟨rfl, h1.more (by omega), h2, h.u.trans h3⟩

/-- A step of one that is finished. -/
theorem step_end (h : MM w M lv m) (hp : m.pc = 0) (v : Value) : Calls Try.prog 84 #[ptr M, v] w fun e w' => e = .returned (.bool true) ∧ w = w' := by
  have c4 : w.cell? ⟨M, 3, none⟩ = some (nxt M m) := by unfold MM Mem at h; simp [World.cell?, h]
  rw [nxt_no hp] at c4
  clear h hp
  go_enter Try.func84, Try.ntmps84
  go_wp2
  go_ret
  exact ⟨rfl, rfl⟩
end Go.Proofs.Ytbpkcoemehmpbaa
