/- A stack's machine in memory stands for one over words; each of its steps is that one's. A machine's step, and what it tells, walked. -/
import Derived.Test.YtbpkcoemehmpbaaGreatJ13
namespace Go.Proofs.YtbpkcoemehmpbaaGreat
open Go.RowKit
set_option linter.unusedVariables false
set_option linter.unusedSimpArgs false

theorem ldv_eq (L : List Int) (a : Int) : ldv L a = ldq L a := by
  unfold ldv ldq inB; simp
theorem ptv_eq (L : List Int) (a v : Int) : ptv L a v = ptq L a v := by
  unfold ptv ptq inB; simp
theorem low_eq (x : Int) : lowOf x = low x := rfl
theorem turn_eq (x n : Int) : turnOf x n = turnw x n := rfl
theorem swB_iff (L : List Int) (a o : Int) : swB L a o = true ↔ ((0 ≤ a ∧ a < L.length) ∧ L.getD a.toNat 0 = o) := by
  unfold swB inB; simp
theorem swv_eq (L : List Int) (a o v : Int) : swv L a o v = if (0 ≤ a ∧ a < L.length) ∧ L.getD a.toNat 0 = o then ptq L a v else L := by
  unfold swv
  by_cases h : (0 ≤ a ∧ a < L.length) ∧ L.getD a.toNat 0 = o
  · rw [if_pos ((swB_iff ..).2 h), if_pos h]; unfold ptq; rw [if_pos h.1]
  · rw [if_neg (fun h2 => h ((swB_iff ..).1 h2)), if_neg h]

/-- The function that does a machine's next step, and its first one. -/
def ffn (m : Sm) : Nat := 102
def nfn (m : Sm) : Nat := if m.pc = 1 then 102 else if m.pc = 2 then 105 else 108
def nxt (M : Nat) (m : Sm) : Value := if m.pc = 0 then .nilFunc else fnv (nfn m) M
theorem nxt_no {M : Nat} {m : Sm} (h : m.pc = 0) : nxt M m = .nilFunc := by simp [nxt, h]
theorem nxt_at {M : Nat} {m : Sm} (h : m.pc ≠ 0) : nxt M m = fnv (nfn m) M := by simp [nxt, h]
/-- A machine in memory. -/
def Mi (w0 w : World) (M S D : Nat) (lv : Value) (Ab : Nat) (m : Sm) (L : List Int) (c : Int) : Prop :=
  Mst w0 w M S D lv Ab m.k.links m.k.head (fnv (ffn m) M) (nxt M m) m.h m.item m.link (sItem m) m.tries L c
/-- What it knows are words; it has begun t times at most. -/
structure Wm (t : Int) (m : Sm) : Prop where
  kd : m.kind = 1
  pc : m.pc ≤ 3
  h : 0 ≤ m.h ∧ m.h ≤ 18446744073709551615
  i : 0 ≤ m.item ∧ m.item ≤ 4294967295
  l : 0 ≤ m.link ∧ m.link ≤ 4294967295
  t : 0 ≤ m.tries ∧ m.tries ≤ t

theorem Wm.mono {t u : Int} {m : Sm} (h : Wm t m) (k : t ≤ u) : Wm u m := ⟨h.kd, h.pc, h.h, h.i, h.l, by have := h.t; omega⟩
theorem low_rng (x : Int) : 0 ≤ low x ∧ low x ≤ 4294967295 := by unfold low; omega
theorem WW.ldq {L : List Int} (h : WW L) (a : Int) : 0 ≤ ldq L a ∧ YtbpkcoemehmpbaaGreat.ldq L a ≤ 18446744073709551615 := by rw [← ldv_eq]; exact h.ld a
theorem ite_ind {α : Type} {P : α → Prop} {q : Prop} [Decidable q] {a b : α} (ha : P a) (hb : P b) : P (if q then a else b) := by split <;> assumption
theorem Wm.swap {t x : Int} {m : Sm} {L : List Int} (h : Wm t m) : Wm t (swapS L m x).2 := by
  unfold swapS
  refine ite_ind (P := fun z : List Int × Sm => Wm t z.2) ?_ ?_
  · exact ⟨h.kd, Nat.zero_le _, h.h, h.i, h.l, h.t⟩
  · exact ⟨h.kd, (by simp : (1 : Nat) ≤ 3), h.h, h.i, h.l, h.t⟩
theorem Wm.step {t : Int} {m : Sm} {L : List Int} (h : Wm t m) (ww : WW L) : Wm (t + 1) (sstp L m).2 := by
  have hm := h.mono (u := t + 1) (by omega)
  have q := ww.ldq
  have ht := h.t
  unfold sstp
  refine ite_ind (P := fun z : List Int × Sm => Wm (t + 1) z.2) hm ?_
  refine ite_ind (P := fun z : List Int × Sm => Wm (t + 1) z.2) (ite_ind (P := fun z : List Int × Sm => Wm (t + 1) z.2) ?_ (ite_ind (P := fun z : List Int × Sm => Wm (t + 1) z.2) ?_ ?_)) ?_
  · exact ⟨h.kd, (by simp : (2 : Nat) ≤ 3), q _, h.i, low_rng _, by simp only; omega⟩
  · exact ⟨h.kd, Nat.zero_le _, q _, by simp only; omega, h.l, by simp only; omega⟩
  · exact ⟨h.kd, (by simp : (2 : Nat) ≤ 3), q _, low_rng _, h.l, by simp only; omega⟩
  refine ite_ind (P := fun z : List Int × Sm => Wm (t + 1) z.2) (ite_ind (P := fun z : List Int × Sm => Wm (t + 1) z.2) ?_ ?_) (ite_ind (P := fun z : List Int × Sm => Wm (t + 1) z.2) hm.swap hm.swap)
  · exact ⟨h.kd, (by simp : (3 : Nat) ≤ 3), h.h, h.i, h.l, hm.t⟩
  · exact ⟨h.kd, (by simp : (3 : Nat) ≤ 3), h.h, h.i, low_rng _, hm.t⟩
theorem WW.put {L : List Int} (h : WW L) (a : Int) {v : Int} (hv : 0 ≤ v ∧ v ≤ 18446744073709551615) : WW (ptq L a v) := by
  unfold ptq; split
  · intro x hx
    rcases List.mem_or_eq_of_mem_set hx with h2 | rfl
    · exact h x h2
    · exact hv
  · exact h
theorem turnw_rng {x n : Int} (hn : 0 ≤ n ∧ n ≤ 4294967295) : 0 ≤ turnw x n ∧ turnw x n ≤ 18446744073709551615 := by unfold turnw; omega
theorem WW.swap {L : List Int} {m : Sm} {x : Int} (h : WW L) (hx : 0 ≤ x ∧ x ≤ 4294967295) : WW (swapS L m x).1 := by
  unfold swapS
  exact ite_ind (P := fun z : List Int × Sm => WW z.1) (h.put _ (turnw_rng hx)) h
theorem WW.step {t : Int} {L : List Int} {m : Sm} (h : WW L) (hm : Wm t m) : WW (sstp L m).1 := by
  unfold sstp
  refine ite_ind (P := fun z : List Int × Sm => WW z.1) h ?_
  refine ite_ind (P := fun z : List Int × Sm => WW z.1) (ite_ind (P := fun z : List Int × Sm => WW z.1) h (ite_ind (P := fun z : List Int × Sm => WW z.1) h h)) ?_
  have hl := hm.l
  exact ite_ind (P := fun z : List Int × Sm => WW z.1) (ite_ind (P := fun z : List Int × Sm => WW z.1) (h.put _ (by omega)) h) (ite_ind (P := fun z : List Int × Sm => WW z.1) (h.swap hm.i) (h.swap hm.l))

section
variable {w0 w w' : World} {M S D Ab : Nat} {lv : Value} {m : Sm} {L : List Int} {c t : Int}
theorem Mi.of {m' : Sm} {zs : List Int} {hd : Int} {fs nx : Value} {se th li it tr : Int} (h : Mst w0 w M S D lv Ab zs hd fs nx se th li it tr L c)
    (h1 : m'.k.links = zs) (h2 : m'.k.head = hd) (h3 : fnv (ffn m') M = fs) (h4 : nxt M m' = nx) (h5 : m'.h = se) (h6 : m'.item = th) (h7 : m'.link = li) (h8 : sItem m' = it) (h9 : m'.tries = tr) : Mi w0 w M S D lv Ab m' L c := by
  subst h1 h2 h3 h4 h5 h6 h7 h8 h9; exact h
theorem Mi.at (h : Mi w0 w M S D lv Ab m L c) (hp : m.pc ≠ 0) : Mst w0 w M S D lv Ab m.k.links m.k.head (fnv (ffn m) M) (fnv (nfn m) M) m.h m.item m.link 0 m.tries L c := by
  have e : sItem m = 0 := by unfold sItem; rw [if_neg hp]
  have h' := h
  unfold Mi at h'
  rw [nxt_at hp, e] at h'
  exact h'

/-- A turn. -/
theorem turned_mi {w' : World} {x : Int} (hp : m.pc ≠ 0) (hk : m.kind = 1) (h : Turned w0 M S D lv Ab m.k.links m.k.head (fnv (ffn m) M) m.h m.item m.link 0 m.tries L c x w') :
    Mi w0 w' M S D lv Ab (swapS L m x).2 (swapS L m x).1 (c + 1) := by
  unfold Turned at h
  rw [swv_eq, turn_eq] at h
  unfold swapS
  by_cases hc : (0 ≤ m.k.head ∧ m.k.head < L.length) ∧ L.getD m.k.head.toNat 0 = m.h
  · rw [if_pos hc]
    have e := (swB_iff ..).2 hc
    rw [e, if_pos rfl, if_pos rfl, if_pos hc] at h
    exact Mi.of h rfl rfl rfl rfl rfl rfl rfl rfl rfl
  · rw [if_neg hc]
    have e : swB L m.k.head m.h = false := by
      cases hb : swB L m.k.head m.h with
      | false => rfl
      | true => exact absurd ((swB_iff ..).1 hb) hc
    rw [e, if_neg (by simp), if_neg (by simp), if_neg hc] at h
    refine Mi.of h rfl rfl rfl ?_ rfl rfl rfl rfl rfl
    show (if (1 : Nat) = 0 then Value.nilFunc else _) = _
    rw [if_neg (by simp)]
    simp [nfn, ffn]

theorem next_any (h : Mi w0 w M S D lv Ab m L c) (hp : m.pc ≠ 0) (wm : Wm t m) (ww : WW L) (h0 : 0 ≤ c) (h1 : c ≤ 1000000000) (ht : t ≤ 1000000000) :
    Calls Tryz.prog (nfn m) #[ptr M, ptr S] w fun a w' => a = .returned (.tuple #[]) ∧ Mi w0 w' M S D lv Ab (sstp L m).2 (sstp L m).1 (c + 1) := by
  have h' := h.at hp
  have t0 := wm.t
  have hpc := wm.pc
  have hk := wm.kd
  by_cases p1 : m.pc = 1
  · rw [show nfn m = 102 by simp [nfn, p1]]
    refine (seeHead_any _ h' h0 h1 t0.1 (by omega) ww).mono ?_
    rintro a w' ⟨rfl, k⟩
    refine ⟨rfl, ?_⟩
    have es : sstp L m = (L, { m with pc := 2, h := ldq L m.k.head, link := low (ldq L m.k.head), tries := m.tries + 1 }) := push_first hk p1 rfl
    rw [es]
    rw [ldv_eq, low_eq] at k
    exact Mi.of k rfl rfl rfl (by simp [nxt, nfn]) rfl rfl rfl rfl rfl
  · by_cases p2 : m.pc = 2
    · rw [show nfn m = 105 by simp [nfn, p2]]
      refine (putLink_any _ h' h0 h1 wm.i.1 wm.i.2 wm.l.1 wm.l.2).mono ?_
      rintro a w' ⟨rfl, k⟩
      refine ⟨rfl, ?_⟩
      rw [push_link hk p2]
      rw [ptv_eq] at k
      exact Mi.of k rfl rfl rfl (by simp [nxt, nfn]) rfl rfl rfl rfl rfl
    · have p3 : m.pc = 3 := by omega
      rw [show nfn m = 108 by simp [nfn, p3]]
      refine (showThing_any _ h' h0 h1 wm.h.1 wm.h.2 wm.i.1 wm.i.2).mono ?_
      rintro a w' ⟨rfl, k⟩
      refine ⟨rfl, ?_⟩
      rw [push_swap hk p3]
      exact turned_mi hp wm.kd k
end
end Go.Proofs.YtbpkcoemehmpbaaGreat

namespace Go.Proofs.YtbpkcoemehmpbaaGreat
open Go.RowKit
set_option linter.unusedVariables false
set_option linter.unusedSimpArgs false
variable {w0 : World} {M S D Ab : Nat} {lv : Value} {m : Sm} {L : List Int} {c t : Int}

theorem eqin_fn (d f M : Nat) (w : World) : (Op.equalIn (d + 1) 88 (fnv f M) .nilFunc).run Tryz.prog w = .ok false w := by
  simp [Op.equalIn, run_underlying Tryz.underlying88]
theorem eqin_nil (d : Nat) (w : World) : (Op.equalIn (d + 1) 88 .nilFunc .nilFunc).run Tryz.prog w = .ok true w := by
  simp [Op.equalIn, run_underlying Tryz.underlying88]
@[go_sem] theorem eql_fn (f M : Nat) (w : World) : (binOp .eql 88 (fnv f M) .nilFunc).run Tryz.prog w = .ok (.bool false) w := by
  have h : (Op.equal 88 (fnv f M) .nilFunc).run Tryz.prog w = .ok false w := eqin_fn 9999 f M w
  simp only [binOp]
  simp [h]
@[go_sem] theorem eql_nil (w : World) : (binOp .eql 88 .nilFunc .nilFunc).run Tryz.prog w = .ok (.bool true) w := by
  have h : (Op.equal 88 .nilFunc .nilFunc).run Tryz.prog w = .ok true w := eqin_nil 9999 w
  simp only [binOp]
  simp [h]

def cst (m : Sm) (c : Int) : Int := if m.pc = 0 then c else c + 1
theorem cst_le (m : Sm) (c : Int) : c ≤ cst m c ∧ cst m c ≤ c + 1 := by unfold cst; split <;> omega
theorem Mi.nx {w : World} (h : Mi w0 w M S D lv Ab m L c) : w.cell? ⟨M, 3, none⟩ = some (nxt M m) := Mst.c3 h

theorem nfn_is (m : Sm) (P : Nat → Prop) (a0 : P 102) (a1 : P 105) (a2 : P 108) : P (nfn m) := by
  unfold nfn
  repeat' split
  all_goals assumption
theorem enter_nfn (m : Sm) (a : Array Value) (w : World) : (callFunc (nfn m) a).run Tryz.prog w = .ok (.enter (nfn m) a) w := by
  refine nfn_is m (fun f => (callFunc f a).run Tryz.prog w = .ok (.enter f a) w) ?_ ?_ ?_ <;> simp [go_sem]

set_option maxHeartbeats 1000000 in
theorem step_on (w : World) (h : Mi w0 w M S D lv Ab m L c) (wm : Wm t m) (ww : WW L) (h0 : 0 ≤ c) (h1 : c ≤ 1000000000) (ht : t ≤ 1000000000) (hp : m.pc ≠ 0) :
    Calls Tryz.prog 103 #[ptr M, ptr S] w fun a w' => a = .returned (.bool (decide ((sstp L m).2.pc = 0))) ∧ Mi w0 w' M S D lv Ab (sstp L m).2 (sstp L m).1 (c + 1) := by
  have c4 := h.nx
  rw [nxt_at hp] at c4
  have HN := Lib.hid (next_any h hp wm ww h0 h1 ht)
  have hen := fun (a : Array Value) (w : World) => enter_nfn m a w
  generalize nfn m = f at c4 HN hen
  generalize sstp L m = z at HN ⊢
  obtain ⟨L', m'⟩ := z
  have HP := Lib.hid hp
  clear h hp wm ww
  by_cases hp' : m'.pc = 0
  · have e1 : decide (m'.pc = 0) = true := by simpa using hp'
    rw [e1]
    have HP' := Lib.hid hp'; clear hp' e1
    go_enter Tryz.func103, Tryz.ntmps103
    go_wp2_with (first
      | ((with_reducible refine HN.out.mono ?_); rintro r w1 ⟨rfl, hk⟩; have HK := Lib.hid hk; have d4 := hk.nx; rw [nxt_no HP'.out] at d4; clear hk)
      | fail)
    go_ret
    exact ⟨rfl, HK.out⟩
  · have e1 : decide (m'.pc = 0) = false := by simpa using hp'
    rw [e1]
    have HP' := Lib.hid hp'; clear hp' e1
    go_enter Tryz.func103, Tryz.ntmps103
    go_wp2_with (first
      | ((with_reducible refine HN.out.mono ?_); rintro r w1 ⟨rfl, hk⟩; have HK := Lib.hid hk; have d4 := hk.nx; rw [nxt_at HP'.out] at d4; clear hk)
      | fail)
    go_ret
    exact ⟨rfl, HK.out⟩

set_option maxHeartbeats 1000000 in
theorem step_off (w : World) (h : Mi w0 w M S D lv Ab m L c) (hp : m.pc = 0) :
    Calls Tryz.prog 103 #[ptr M, ptr S] w fun a w' => a = .returned (.bool true) ∧ w = w' := by
  have c4 := h.nx
  rw [nxt_no hp] at c4
  clear h hp
  go_enter Tryz.func103, Tryz.ntmps103
  go_wp2
  go_ret
  exact ⟨rfl, rfl⟩
/-- A step. -/
theorem step_any (w : World) (h : Mi w0 w M S D lv Ab m L c) (wm : Wm t m) (ww : WW L) (h0 : 0 ≤ c) (h1 : c ≤ 1000000000) (ht : t ≤ 1000000000) :
    Calls Tryz.prog 103 #[ptr M, ptr S] w fun a w' => a = .returned (.bool (decide ((sstp L m).2.pc = 0))) ∧ Mi w0 w' M S D lv Ab (sstp L m).2 (sstp L m).1 (cst m c) := by
  by_cases hp : m.pc = 0
  · rw [sstp_no hp]
    refine (step_off w h hp).mono ?_
    rintro a w' ⟨rfl, rfl⟩
    exact ⟨by simp [hp], by simpa [cst, hp] using h⟩
  · refine (step_on w h wm ww h0 h1 ht hp).mono ?_
    rintro a w' ⟨rfl, hk⟩
    exact ⟨rfl, by simpa [cst, hp] using hk⟩
set_option maxHeartbeats 1000000 in
theorem step_nil (v : Value) (w : World) : Calls Tryz.prog 103 #[.pointer none, v] w fun a w' => a = .returned (.bool true) ∧ w = w' := by
  go_enter Tryz.func103, Tryz.ntmps103
  go_wp2
  go_ret
  exact ⟨rfl, rfl⟩

/-- A machine in memory, by itself. -/
def MM (w : World) (M : Nat) (lv : Value) (m : Sm) : Prop := Mem w M lv m.k.head (fnv (ffn m) M) (nxt M m) m.h m.item m.link (sItem m) m.tries
theorem MM.lt {w : World} (h : MM w M lv m) : M < w.heap.size := (Array.getElem?_eq_some_iff.1 h).1
theorem MM.u3 {w w' : World} {M' : Nat} (h : MM w M lv m) (u : U3 M' S D w w') (n0 : M ≠ M') (n1 : M ≠ S) (n2 : M ≠ D) : MM w' M lv m :=
  (u.block M h.lt n0 n1 n2).trans h
theorem MM.below {w w' : World} (h : MM w M lv m) (hb : Below w.heap.size w w') : MM w' M lv m := (hb.block M h.lt).trans h
theorem MM.mi {w : World} (h : MM w M lv m) (hs : St w S D L c) (hl : Lk w lv Ab m.k.links) (n1 : M ≠ S) (n2 : M ≠ D) (b2 : Ab ≠ M ∧ Ab ≠ S ∧ Ab ≠ D) : Mi w w M S D lv Ab m L c :=
  ⟨h, hs, n1, n2, hl, b2, .refl _ _ _ _⟩
theorem Mi.mm {w : World} (h : Mi w0 w M S D lv Ab m L c) : MM w M lv m := h.mem
theorem Mi.st' {w : World} (h : Mi w0 w M S D lv Ab m L c) : St w S D L c := h.st
theorem Mi.u' {w : World} (h : Mi w0 w M S D lv Ab m L c) : U3 M S D w0 w := h.u
theorem Mi.lk' {w : World} (h : Mi w0 w M S D lv Ab m L c) : Lk w lv Ab m.k.links := h.lk

/-- How many accesses there were. -/
theorem cnt_any (w : World) (h : St w S D L c) : Calls Tryz.prog 15 #[ptr S] w fun a w' => a = .returned (.int .i64 c) ∧ w = w' := by
  have hc := h.many
  clear h
  go_enter Tryz.func15, Tryz.ntmps15
  go_wp2
  go_ret
  exact ⟨rfl, rfl⟩

/-- A machine in new memory. -/
def NewM (w : World) (lv : Value) (m : Sm) (a : Ending) (w' : World) : Prop := ∃ M, a = .returned (ptr M) ∧ w.heap.size ≤ M ∧ MM w' M lv m ∧ Below w.heap.size w w'

set_option maxHeartbeats 1000000 in
theorem numbered_any (x : Int) (w : World) (hx : -9223372036854775808 ≤ x ∧ x ≤ 9223372036854775807) : Calls Tryz.prog 101 #[.int .i64 x] w fun a w' => a = .returned (.int .u32 (itemOf x)) ∧ w = w' := by
  by_cases h1 : x < 1
  · have e : itemOf x = 0 := by unfold itemOf; rw [if_pos (.inl h1)]
    rw [e]; clear e
    go_enter Tryz.func101, Tryz.ntmps101
    go_wp2
    go_ret
    exact ⟨rfl, rfl⟩
  · by_cases h2 : 4294967295 < x
    · have e : itemOf x = 0 := by unfold itemOf; rw [if_pos (.inr h2)]
      rw [e]; clear e
      go_enter Tryz.func101, Tryz.ntmps101
      go_wp2
      go_ret
      exact ⟨rfl, rfl⟩
    · have e : itemOf x = x := by unfold itemOf; rw [if_neg (by omega)]
      rw [e]; clear e
      go_enter Tryz.func101, Tryz.ntmps101
      go_wp2
      go_ret
      exact ⟨rfl, rfl⟩
theorem new_m (w : World) (k : Sk) (x : Int) (g kd : Nat) (hg : kd = 1 ∧ g = 102) :
    NewM w lv ⟨kd, 1, k, x, 0, 0, 0⟩ (.returned (ptr w.heap.size)) (w.alloc (.cells #[.int .i64 k.head, lv, fnv g w.heap.size, fnv g w.heap.size, .int .u64 0, .int .u32 x, .int .u32 0, .int .u32 0, .int .i64 0] 136)) := by
  refine ⟨w.heap.size, rfl, Nat.le_refl _, ?_, below_alloc0 (Below.refl _ _) _⟩
  have e1 : nxt w.heap.size ⟨kd, 1, k, x, 0, 0, 0⟩ = fnv g w.heap.size := by obtain ⟨rfl, rfl⟩ := hg; simp [nxt, nfn]
  have e2 : ffn ⟨kd, 1, k, x, 0, 0, 0⟩ = g := by obtain ⟨rfl, rfl⟩ := hg; simp [ffn]
  unfold MM Mem
  rw [e1, e2]
  show (w.heap.push _)[w.heap.size]? = _
  simp [sItem]
set_option maxHeartbeats 1000000 in
theorem push_any {zs : List Int} (k : Sk) (x : Int) (w : World) (hl : Lk w lv Ab zs) (hx : -9223372036854775808 ≤ x ∧ x ≤ 9223372036854775807) : Calls Tryz.prog 99 #[.int .i64 k.head, lv, .int .i64 x] w (NewM w lv (mPush k x)) := by
  have hmf : ∀ (fn : Fn) (first cap : Array Value) (w : World), (Instr.makeFunc fn first cap).run Tryz.prog w = .ok (.func fn first cap) w := fun _ _ _ _ => rfl
  obtain ⟨c, _, _, hr⟩ := hl
  rcases hr with ⟨rfl, _⟩ | ⟨rfl, _⟩
  · go_enter Tryz.func99, Tryz.ntmps99
    go_wp2_with (first
      | (go_at_call 101; (with_reducible refine (numbered_any _ _ hx).mono ?_); rintro r w1 ⟨rfl, hw⟩; cases hw)
      | fail)
    go_ret
    exact new_m w k (itemOf x) 102 1 ⟨rfl, rfl⟩
  · go_enter Tryz.func99, Tryz.ntmps99
    go_wp2_with (first
      | (go_at_call 101; (with_reducible refine (numbered_any _ _ hx).mono ?_); rintro r w1 ⟨rfl, hw⟩; cases hw)
      | fail)
    go_ret
    exact new_m w k (itemOf x) 102 1 ⟨rfl, rfl⟩
theorem wm_push (k : Sk) (x : Int) : Wm 0 (mPush k x) := by
  refine ⟨rfl, (by simp [mPush]), (by simp [mPush]), ?_, (by simp [mPush]), (by simp [mPush])⟩
  simp only [mPush]; unfold itemOf; split <;> omega
end Go.Proofs.YtbpkcoemehmpbaaGreat
