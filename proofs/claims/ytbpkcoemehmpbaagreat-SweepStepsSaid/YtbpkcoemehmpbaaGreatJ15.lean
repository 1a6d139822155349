/- A store of the call's own with links, and machines over it. A stack's things in a list of words, walked. The document's own places and walk. The document's own machine, begun, and what it tells; walked. -/
import Derived.Test.YtbpkcoemehmpbaaGreatJ14
import Derived.Test.YtbpkcoemehmpbaaGreatJ8
import Derived.ScopeJumps
import Derived.WalkMore
import Derived.Test.YtbpkcoemehmpbaaGreatRef
namespace Go.Proofs.YtbpkcoemehmpbaaGreat
open Go.RowKit
set_option linter.unusedVariables false
set_option linter.unusedSimpArgs false
variable {B S D Ab M : Nat} {lv : Value} {w0 w w' : World} {zs L : List Int} {k t : Int} {m : Sm}

theorem sstp_k (L : List Int) (m : Sm) : (sstp L m).2.k = m.k := by
  unfold sstp swapS
  repeat' (first | rfl | refine ite_ind (P := fun z : List Int × Sm => z.2.k = m.k) ?_ ?_)

/-- A store of the call's own; k: how many accesses there were at most. -/
structure Ok (B S D : Nat) (lv : Value) (Ab : Nat) (w0 w : World) (zs L : List Int) (k : Int) : Prop where
  own : ∃ c, 0 ≤ c ∧ c ≤ k ∧ Own B S D w0 w L c
  lk : Lk w lv Ab zs
  b2 : Ab ≠ S ∧ Ab ≠ D
  ww : WW L
/-- A block apart from it. -/
def Ap (B S D Ab M : Nat) : Prop := B ≤ M ∧ M ≠ S ∧ M ≠ D ∧ M ≠ Ab
theorem Ok.bel (h : Ok B S D lv Ab w0 w zs L k) : Below B w0 w := by obtain ⟨c, _, _, h⟩ := h.own; exact h.bel
theorem Ok.ltS (h : Ok B S D lv Ab w0 w zs L k) : S < w.heap.size ∧ D < w.heap.size := by obtain ⟨c, _, _, h⟩ := h.own; exact ⟨h.st.ltS, h.st.row.lt⟩
theorem Ok.lo (h : Ok B S D lv Ab w0 w zs L k) : B ≤ S ∧ B ≤ D ∧ B ≤ w0.heap.size := by obtain ⟨c, _, _, h⟩ := h.own; exact ⟨h.1, h.2.1, h.2.2.1⟩
theorem Ok.new (h : Ok B S D lv Ab w0 w zs L k) (hM : w.heap.size ≤ M) : Ap B S D Ab M := by
  have := h.ltS; have := h.lk.lt; have := h.lo; have := h.bel.size
  exact ⟨by omega, by omega, by omega, by omega⟩
theorem Ok.step (h : Ok B S D lv Ab w0 w zs L k) (hb : Below w.heap.size w w') : Ok B S D lv Ab w0 w' zs L k := by
  obtain ⟨c, h0, h1, o⟩ := h.own
  exact ⟨⟨c, h0, h1, o.step hb⟩, h.lk.below hb, h.b2, h.ww⟩
theorem Ok.more (h : Ok B S D lv Ab w0 w zs L k) {k' : Int} (hk : k ≤ k') : Ok B S D lv Ab w0 w zs L k' := by
  obtain ⟨c, h0, h1, o⟩ := h.own
  exact ⟨⟨c, h0, by omega, o⟩, h.lk, h.b2, h.ww⟩
/-- Another block changes. -/
theorem Ok.upd (h : Ok B S D lv Ab w0 w zs L k) {b : Nat} (u : Upd b b w w') (a : Ap B S D Ab b) : Ok B S D lv Ab w0 w' zs L k := by
  obtain ⟨c, h0, h1, o⟩ := h.own
  obtain ⟨a0, a1, a2, a4⟩ := a
  refine ⟨⟨c, h0, h1, o.1, o.2.1, o.2.2.1, o.st.upd u (Ne.symm a1) (Ne.symm a1) (Ne.symm a2) (Ne.symm a2), below_upd o.bel o.2.2.1 u a0 a0⟩, ?_, h.b2, h.ww⟩
  exact h.lk.keep u.size (u.block Ab h.lk.lt (Ne.symm a4) (Ne.symm a4))
theorem Ok.mi (h : Ok B S D lv Ab w0 w zs L k) (hm : MM w M lv m) (a : Ap B S D Ab M) (hz : m.k.links = zs) : ∃ c, 0 ≤ c ∧ c ≤ k ∧ Mi w w M S D lv Ab m L c := by
  obtain ⟨c, h0, h1, o⟩ := h.own
  obtain ⟨a0, a1, a2, a4⟩ := a
  exact ⟨c, h0, h1, hm.mi o.st (by rw [hz]; exact h.lk) a1 a2 ⟨Ne.symm a4, h.b2.1, h.b2.2⟩⟩
theorem Ok.of_mi (h : Ok B S D lv Ab w0 w zs L k) (a : Ap B S D Ab M) {L' : List Int} {c' k' : Int} {m' : Sm} (hz : m'.k.links = zs) (hm : Mi w w' M S D lv Ab m' L' c') (h0 : 0 ≤ c') (h1 : c' ≤ k') (ww : WW L') : Ok B S D lv Ab w0 w' zs L' k' := by
  obtain ⟨c, _, _, o⟩ := h.own
  have l := hm.lk'
  rw [hz] at l
  exact ⟨⟨c', h0, h1, o.1, o.2.1, o.2.2.1, hm.st', below_u3 o.bel o.2.2.1 hm.u' a.1 o.1 o.2.1⟩, l, h.b2, ww⟩

/-- A machine goes on by a step; others stay as they are. -/
theorem step_ok (h : Ok B S D lv Ab w0 w zs L k) (hm : MM w M lv m) (a : Ap B S D Ab M) (hz : m.k.links = zs) (wm : Wm t m) (hk : k ≤ 900000000) (ht : t ≤ 900000000) :
    Calls Tryz.prog 103 #[ptr M, ptr S] w fun e w' => e = .returned (.bool (decide ((sstp L m).2.pc = 0))) ∧ Ok B S D lv Ab w0 w' zs (sstp L m).1 (k + 1) ∧ MM w' M lv (sstp L m).2 ∧ U3 M S D w w' := by
  obtain ⟨c, h0, h1, mi⟩ := h.mi hm a hz
  refine (step_any w mi wm h.ww h0 (by omega) (by omega)).mono ?_
  rintro e w1 ⟨rfl, mi'⟩
  have := cst_le m c
  exact ⟨rfl, h.of_mi a (by rw [sstp_k]; exact hz) mi' (k' := k + 1) (by omega) (by omega) (h.ww.step wm), mi'.mm, mi'.u'⟩
theorem load_ok (h : Ok B S D lv Ab w0 w zs L k) (at' : Int) (hk : k ≤ 900000000) :
    Calls Tryz.prog 27 #[ptr S, .int .i64 at'] w fun a w' => a = .returned (.int .u64 (ldq L at')) ∧ Ok B S D lv Ab w0 w' zs L (k + 1) ∧ Upd S D w w' := by
  obtain ⟨c, h0, h1, o⟩ := h.own
  refine (load_any at' w o.st h0 (by omega)).mono ?_
  rintro a w1 ⟨rfl, l⟩
  exact ⟨by rw [ldv_eq], ⟨⟨c + 1, by omega, by omega, o.left l⟩, h.lk.u3 (M := S) (.of_upd l.2) ⟨h.b2.1, h.b2⟩, h.b2, h.ww⟩, l.2⟩
theorem put_ok (h : Ok B S D lv Ab w0 w zs L k) (at' v : Int) (hv : 0 ≤ v ∧ v ≤ 18446744073709551615) (hk : k ≤ 900000000) :
    Calls Tryz.prog 13 #[ptr S, .int .i64 at', .int .u64 v] w fun a w' => a = .returned (.tuple #[]) ∧ Ok B S D lv Ab w0 w' zs (ptq L at' v) (k + 1) ∧ Upd S D w w' := by
  obtain ⟨c, h0, h1, o⟩ := h.own
  refine (put_any at' v w o.st h0 (by omega)).mono ?_
  rintro a w1 ⟨rfl, l⟩
  rw [ptv_eq] at l
  exact ⟨rfl, ⟨⟨c + 1, by omega, by omega, o.left l⟩, h.lk.u3 (M := S) (.of_upd l.2) ⟨h.b2.1, h.b2⟩, h.b2, h.ww.put _ hv⟩, l.2⟩
theorem all_ok (h : Ok B S D lv Ab w0 w zs L k) (hl : L.length ≤ 1000000) :
    Calls Tryz.prog 10 #[ptr S] w fun a w' => a = .returned (.slice (some ⟨w.heap.size, 0, none⟩) L.length L.length) ∧ Row w' w.heap.size L ∧ Ok B S D lv Ab w0 w' zs L k ∧ Below w.heap.size w w' := by
  obtain ⟨c, h0, h1, o⟩ := h.own
  refine (all_any w o.st hl).mono ?_
  rintro a w1 ⟨rfl, hr, hb⟩
  exact ⟨rfl, hr, h.step hb, hb⟩
/-- The store is new; the links are elder. -/
theorem Ok.start {L : List Int} {a : Ending} (hb : Below B w0 w) (hB : B ≤ w0.heap.size) (hl : Lk w lv Ab zs) (ww : WW L) (h : SomeNew w L a w') : ∃ S D, a = .returned (ptr S) ∧ Ok B S D lv Ab w0 w' zs L 0 ∧ w.heap.size ≤ S ∧ w.heap.size ≤ D := by
  obtain ⟨S, D, rfl, hS, hD, hs, hb'⟩ := h
  have := hl.lt
  exact ⟨S, D, rfl, ⟨⟨0, by omega, by omega, Own.of_new hb hB hS hD hs hb'⟩, hl.below hb', by omega, ww⟩, hS, hD⟩
theorem sruns_succ (k : Nat) (L : List Int) (m : Sm) : sruns (k + 1) L m = sruns k (sstp L m).1 (sstp L m).2 := rfl
theorem sstp_sruns (k : Nat) : ∀ (L : List Int) (m : Sm), sstp (sruns k L m).1 (sruns k L m).2 = sruns (k + 1) L m := by
  induction k with
  | zero => intro L m; rfl
  | succ k ih => intro L m; rw [sruns_succ, ih, ← sruns_succ]
theorem sruns_k (k : Nat) : ∀ (L : List Int) (m : Sm), (sruns k L m).2.k = m.k := by
  induction k with
  | zero => intro L m; rfl
  | succ k ih => intro L m; rw [sruns_succ, ih, sstp_k]
theorem sruns_w (k : Nat) : ∀ {L : List Int} {m : Sm} {t : Int}, WW L → Wm t m → WW (sruns k L m).1 ∧ Wm (t + k) (sruns k L m).2 := by
  induction k with
  | zero => intro L m t h h2; exact ⟨h, (show Wm (t + ((0 : Nat) : Int)) m from h2.mono (by omega))⟩
  | succ k ih =>
    intro L m t h h2
    rw [sruns_succ]
    have := ih (h.step h2) (h2.step h)
    exact ⟨this.1, this.2.mono (by omega)⟩
attribute [local irreducible] sruns

/-- A machine that has gone on for i steps. -/
structure On (B S D : Nat) (lv : Value) (Ab M : Nat) (w0 w1 w : World) (zs L : List Int) (m : Sm) (i : Nat) (k : Int) : Prop where
  ok : Ok B S D lv Ab w0 w zs (sruns i L m).1 (k + i)
  mm : MM w M lv (sruns i L m).2
  u : U3 M S D w1 w
theorem On.start (h : Ok B S D lv Ab w0 w zs L k) (hm : MM w M lv m) : On B S D lv Ab M w0 w w zs L m 0 k := by
  refine ⟨?_, ?_, .refl _ _ _ _⟩
  · unfold sruns; simpa using h
  · unfold sruns; exact hm
theorem on_step {w1 : World} {i : Nat} (h : On B S D lv Ab M w0 w1 w zs L m i k) (a : Ap B S D Ab M) (hz : m.k.links = zs) (wm : Wm t m) (ww : WW L) (hk : k + i ≤ 900000000) (ht : t + i ≤ 900000000) :
    Calls Tryz.prog 103 #[ptr M, ptr S] w fun e w' => e = .returned (.bool (decide ((sruns (i + 1) L m).2.pc = 0))) ∧ On B S D lv Ab M w0 w1 w' zs L m (i + 1) k := by
  refine (step_ok h.ok h.mm a (by rw [sruns_k]; exact hz) (sruns_w i ww wm).2 hk ht).mono ?_
  rintro e w' ⟨rfl, h1, h2, h3⟩
  rw [sstp_sruns] at h1 h2 ⊢
  exact ⟨rfl, h1.more (by omega), h2, h.u.trans h3⟩

/-- A step of one that is finished. -/
theorem step_end (h : MM w M lv m) (hp : m.pc = 0) (v : Value) : Calls Tryz.prog 103 #[ptr M, v] w fun e w' => e = .returned (.bool true) ∧ w = w' := by
  have c4 : w.cell? ⟨M, 3, none⟩ = some (nxt M m) := by unfold MM Mem at h; simp [World.cell?, h]
  rw [nxt_no hp] at c4
  clear h hp
  go_enter Tryz.func103, Tryz.ntmps103
  go_wp2
  go_ret
  exact ⟨rfl, rfl⟩
end Go.Proofs.YtbpkcoemehmpbaaGreat

namespace Go.Proofs.YtbpkcoemehmpbaaGreat
open Go.RowKit
set_option linter.unusedVariables false
set_option linter.unusedSimpArgs false

/-- From a thing on. -/
def wlk (L : List Int) (k : Sk) : Nat → Int → List Int
  | 0, _ => []
  | f + 1, x => if x = 0 then [] else x :: wlk L k f (low (ldq L (atOf k.links x)))
theorem low_ldq (L : List Int) (p : Int) : 0 < low (ldq L p) ↔ ((0 ≤ p ∧ p < L.length) ∧ 0 < low (L.getD p.toNat 0)) := by
  unfold ldq; split
  · rename_i h; exact ⟨fun h2 => ⟨h, h2⟩, fun h2 => h2.2⟩
  · rename_i h; exact ⟨fun h2 => by simp [low] at h2, fun h2 => absurd h2.1 h⟩
theorem walk_wlk (L : List Int) (k : Sk) : ∀ (f : Nat) (p : Int), walkQ L k f p = wlk L k f (low (ldq L p))
  | 0, p => rfl
  | f + 1, p => by
    have h := low_ldq L p
    have h0 := (low_rng (ldq L p)).1
    unfold walkQ wlk
    by_cases hc : (0 ≤ p ∧ p < L.length) ∧ 0 < low (L.getD p.toNat 0)
    · have e : ldq L p = L.getD p.toNat 0 := by unfold ldq; rw [if_pos hc.1]
      rw [if_pos hc, e, if_neg (by omega), walk_wlk L k f]
    · have h2 : low (ldq L p) = 0 := by
        have : ¬ 0 < low (ldq L p) := fun h3 => hc (h.1 h3)
        omega
      rw [if_neg hc, if_pos h2]

theorem OwnI.bel {k : IntKind} {e : TypeId} {B : Nat} {w0 wr : World} {v : Value} {l : List Int} (h : OwnI k e B w0 wr v l) : Below B w0 wr := h.2
theorem wp_scope_once {P : Program} {a : Act} {w : World} {Q : Exit → Act → World → Prop} {c X : Code} (l : Nat) (J : Act → World → Prop) (μ : Act → World → Nat) (hf : findLabel c l = some (Code.skip.seq X))
    (pass : ∀ a w, J a w → ∀ JJ : Act → World → Prop, (∀ a' w', J a' w' → μ a' w' < μ a w → JJ a' w') → X.wp P (Exit.jump l JJ Q) a w)
    (first : ∀ JJ : Act → World → Prop, (∀ a w, J a w → X.wp P (Exit.jump l JJ Q) a w) → c.wp P (Exit.jump l JJ Q) a w) : (Code.scope c).wp P Q a w :=
  wp_scope_jumps l J μ hf (first J fun a w h => pass a w h J fun _ _ h _ => h) fun a w h => wp_seq (wp_skip (pass a w h _ fun _ _ h h2 => ⟨h, h2⟩))

end Go.Proofs.YtbpkcoemehmpbaaGreat

namespace Go.Proofs.YtbpkcoemehmpbaaGreat
open Go.RowKit
set_option linter.unusedVariables false
set_option linter.unusedSimpArgs false

abbrev kval (h : Int) (A : Option Addr) (n cap : Nat) : Value := .agg #[.int .i64 h, .slice A n cap]

set_option maxHeartbeats 1000000 in
theorem refAt_any (h : Int) (A : Option Addr) (n cap : Nat) (zs : List Int) (x : Int) (w : World) (hn : n = zs.length) (hR : Reads .i64 w A zs) (hl : n ≤ 1000000) (x0 : 0 ≤ x) (x1 : x ≤ 4294967295) :
    Calls Tryz.prog 82 #[kval h A n cap, .int .u32 x] w fun e w' => e = .returned (.int .i64 (atOf zs x)) ∧ Below w.heap.size w w' := by
  by_cases h1 : x < 1
  · have e : atOf zs x = -1 := by unfold atOf; rw [if_neg (by omega)]
    rw [e]
    have d1 : decide (x < 1) = true := by simpa using h1
    clear hR hl e hn
    go_enter Tryz.func82, Tryz.ntmps82
    go_wp2_with (fail)
    go_ret
    exact ⟨rfl, below_alloc0 (Below.refl _ _) _⟩
  · have d1 : decide (x < 1) = false := by simpa using h1
    by_cases h2 : (n : Int) < x
    · have e : atOf zs x = -1 := by unfold atOf; rw [if_neg (by omega)]
      rw [e]
      have d2 : decide (x > (n : Int)) = true := by simpa using h2
      clear hR hl e hn
      go_enter Tryz.func82, Tryz.ntmps82
      go_wp2_with (fail)
      go_ret
      exact ⟨rfl, below_alloc0 (Below.refl _ _) _⟩
    · have d2 : decide (x > (n : Int)) = false := by simpa using h2
      obtain ⟨i, hi⟩ : ∃ i : Nat, x - 1 = (i : Int) := ⟨(x - 1).toNat, by omega⟩
      have hi1 : i < n := by omega
      have e : atOf zs x = zs.getD i 0 := by unfold atOf; rw [if_pos (by omega), hi]; rfl
      rw [e]
      obtain ⟨b, off, rfl, hbl, hc2⟩ := hR (by omega)
      have c1 := hc2 i (by omega)
      have hi0 : (0 : Int) ≤ (i : Int) := by omega
      have hi2 : (i : Int) < (n : Int) := by omega
      obtain ⟨z, hzz⟩ : ∃ z, z = zs.getD i 0 := ⟨_, rfl⟩
      rw [← hzz] at c1 ⊢
      have c2 : (w.alloc (.cells #[.int .i64 h, .slice (some ⟨b, off, none⟩) n cap] 48)).cell? ⟨b, off + i, none⟩ = some (.int .i64 z) := ((below_alloc0 (Below.refl _ _) _).cell (p := ⟨b, off + i, none⟩) hbl).trans c1
      clear hR hc2 hl e hn hzz
      go_enter Tryz.func82, Tryz.ntmps82
      go_wp2_with (fail)
      go_ret
      exact ⟨rfl, below_alloc0 (Below.refl _ _) _⟩

def lenV : Value → Nat
  | .slice _ n _ => n
  | _ => 0
/-- Two cells of a box. -/
theorem box_kv {w : World} {h : Int} {A : Option Addr} {n cap : Nat} {w' : World} (hb : Below (w.heap.size + 1) (w.alloc (.cells #[.int .i64 h, .slice A n cap] 48)) w') :
    w'.cell? ⟨w.heap.size, 0, none⟩ = some (.int .i64 h) ∧ w'.cell? ⟨w.heap.size, 1, none⟩ = some (.slice A n cap) := by
  constructor
  · rw [hb.cell (p := ⟨w.heap.size, 0, none⟩) (by simp), World.cell?_alloc_at _ _ _ _ rfl]; rfl
  · rw [hb.cell (p := ⟨w.heap.size, 1, none⟩) (by simp), World.cell?_alloc_at _ _ _ _ rfl]; rfl

end Go.Proofs.YtbpkcoemehmpbaaGreat

namespace Go.Proofs.YtbpkcoemehmpbaaGreat
open Go.RowKit
set_option linter.unusedVariables false
set_option linter.unusedSimpArgs false

/-- The document's own machine, as a value: its links are a slice. -/
abbrev mV (kd pc hd : Int) (A : Option Addr) (n cap : Nat) (it h li tr : Int) : Value := .agg #[.int .i64 kd, .int .i64 pc, .int .i64 hd, .slice A n cap, .int .u32 it, .int .u64 h, .int .u32 li, .int .i64 tr]
/-- It stands for one over words. -/
abbrev smV (m : Sm) (A : Option Addr) (n cap : Nat) : Value := mV m.kind m.pc m.k.head A n cap m.item m.h m.link m.tries

set_option maxHeartbeats 2000000 in
theorem rpush_any (hd : Int) (A : Option Addr) (n cap : Nat) (x : Int) (w : World) (hx : -9223372036854775808 ≤ x ∧ x ≤ 9223372036854775807) : Calls Tryz.prog 46 #[kval hd A n cap, .int .i64 x] w fun a w' => a = .returned (mV 1 1 hd A n cap (itemOf x) 0 0 0) ∧ Below w.heap.size w w' := by
  by_cases h1 : x < 0
  · have e : itemOf x = 0 := by unfold itemOf; rw [if_pos (.inl (by omega))]
    have d1 : decide (x < 0) = true := by simpa using h1
    rw [e]; clear e
    go_enter Tryz.func46, Tryz.ntmps46
    go_wp2_with (fail)
    exact bodyPost_ret (v := mV 1 1 hd A n cap 0 0 0 0) (by simp [results, Tryz.results46, go_sem]) rfl ⟨rfl, below_alloc0 (below_alloc0 (Below.refl _ _) _) _⟩
  have d1 : decide (x < 0) = false := by simpa using h1
  by_cases h2 : x > 4294967295
  · have e : itemOf x = 0 := by unfold itemOf; rw [if_pos (.inr (by omega))]
    have d2 : decide (x > 4294967295) = true := by simpa using h2
    rw [e]; clear e
    go_enter Tryz.func46, Tryz.ntmps46
    go_wp2_with (fail)
    exact bodyPost_ret (v := mV 1 1 hd A n cap 0 0 0 0) (by simp [results, Tryz.results46, go_sem]) rfl ⟨rfl, below_alloc0 (below_alloc0 (Below.refl _ _) _) _⟩
  have d2 : decide (x > 4294967295) = false := by simpa using h2
  have e : itemOf x = x := by unfold itemOf; split <;> omega
  rw [e]; clear e
  go_enter Tryz.func46, Tryz.ntmps46
  go_wp2_with (fail)
  exact bodyPost_ret (v := mV 1 1 hd A n cap x 0 0 0) (by simp [results, Tryz.results46, go_sem]) rfl ⟨rfl, below_alloc0 (below_alloc0 (Below.refl _ _) _) _⟩
set_option maxHeartbeats 2000000 in
theorem rstep0_any (R : Option Addr) (n' capR : Nat) (kd hd : Int) (A : Option Addr) (n cap : Nat) (it h li tr : Int) (w : World) :
    Calls Tryz.prog 49 #[.slice R n' capR, mV kd 0 hd A n cap it h li tr] w fun a w' => a = .returned (.tuple #[.slice R n' capR, mV kd 0 hd A n cap it h li tr]) ∧ Below w.heap.size w w' := by
  go_enter Tryz.func49, Tryz.ntmps49
  go_wp2_with (fail)
  go_region_with (fail)
  go_wp2
  exact bodyPost_ret (v := .tuple #[.slice R n' capR, mV kd 0 hd A n cap it h li tr]) (by simp [results, Tryz.results49, go_sem]) rfl ⟨rfl, (below_alloc0 (below_alloc0 (Below.refl _ _) _) _).drew⟩

/-- Two blocks that have just been made. -/
theorem below_two (w : World) (o o' : Obj) : Below w.heap.size w ((w.alloc o).alloc o') := below_alloc0 (below_alloc0 (Below.refl _ _) _) _

set_option maxHeartbeats 4000000 in
theorem rstep1_push (R : Option Addr) (n' capR : Nat) (L : List Int) (hd : Int) (A : Option Addr) (n cap : Nat) (it h li tr : Int) (w : World) (hn : n' = L.length) (hR : Reads .u64 w R L) (ww : WW L) (t0 : 0 ≤ tr) (t1 : tr ≤ 1000000000) :
    Calls Tryz.prog 49 #[.slice R n' capR, mV 1 1 hd A n cap it h li tr] w fun a w' => a = .returned (.tuple #[.slice R n' capR, mV 1 2 hd A n cap it (ldq L hd) (low (ldq L hd)) (tr + 1)]) ∧ Below w.heap.size w w' := by
  obtain ⟨g, hg⟩ : ∃ g, g = ldq L hd := ⟨_, rfl⟩
  have hgr := ww.ldq hd
  rw [← hg] at hgr
  obtain ⟨g0, g1⟩ := hgr
  have hg2 : g = ldv L hd := by rw [hg, ldv_eq]
  rw [← hg]
  obtain ⟨x, hx⟩ : ∃ x, x = low g := ⟨_, rfl⟩
  rw [← hx]
  have hx2 : x = g % 4294967296 := hx
  have HG := Lib.hid hg2; have HX := Lib.hid hx2; have HN := Lib.hid hn; have HR := Lib.hid hR
  clear hg hx hg2 hx2 hn hR ww
  go_enter Tryz.func49, Tryz.ntmps49
  go_wp2_with (first
    | (go_at_call 43; (with_reducible refine (rload_any R n' capR L hd _ HN.out (HR.out.below (below_two _ _ _) (Nat.le_refl _))).mono ?_); rintro r w1 ⟨rfl, hw⟩; cases hw; rw [← HG.out])
    | (go_at_call 77; (with_reducible refine (refLow_any g g0 g1 _).mono ?_); rintro r w1 ⟨rfl, hw⟩; cases hw; rw [← HX.out])
    | fail)
  go_region
  go_wp2
  exact bodyPost_ret (v := .tuple #[.slice R n' capR, mV 1 2 hd A n cap it g x (tr + 1)]) (by simp [results, Tryz.results49, go_sem]) rfl ⟨rfl, (below_two _ _ _).drew⟩
end Go.Proofs.YtbpkcoemehmpbaaGreat
