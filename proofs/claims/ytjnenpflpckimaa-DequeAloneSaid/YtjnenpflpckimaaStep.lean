/- A machine's step, and what came of it, walked. -/
import Derived.Test.YtjnenpflpckimaaMi
namespace Go.Proofs.Ytjnenpflpckimaa
open Go.RowKit
set_option linter.unusedVariables false
set_option linter.unusedSimpArgs false
variable {w0 : World} {M S D : Nat} {m : Mc} {L : List Int} {c : Int}

theorem eqin_fn (d f M : Nat) (w : World) : (Op.equalIn (d + 1) 61 (fnv f M) .nilFunc).run Try.prog w = .ok false w := by
  simp [Op.equalIn, run_underlying Try.underlying61]
theorem eqin_nil (d : Nat) (w : World) : (Op.equalIn (d + 1) 61 .nilFunc .nilFunc).run Try.prog w = .ok true w := by
  simp [Op.equalIn, run_underlying Try.underlying61]
@[go_sem] theorem eql_fn (f M : Nat) (w : World) : (binOp .eql 61 (fnv f M) .nilFunc).run Try.prog w = .ok (.bool false) w := by
  have h : (Op.equal 61 (fnv f M) .nilFunc).run Try.prog w = .ok false w := eqin_fn 9999 f M w
  simp only [binOp]
  simp [h]
@[go_sem] theorem eql_nil (w : World) : (binOp .eql 61 .nilFunc .nilFunc).run Try.prog w = .ok (.bool true) w := by
  have h : (Op.equal 61 .nilFunc .nilFunc).run Try.prog w = .ok true w := eqin_nil 9999 w
  simp only [binOp]
  simp [h]

def cst (m : Mc) (c : Int) : Int := if m.pc = 0 then c else c + 1
theorem Mi.nx {w : World} (h : Mi w0 w M S D m L c) : w.cell? ⟨M, 4, none⟩ = some (nxt M m) := by
  obtain ⟨t, b, v, h, _⟩ := h; exact h.c4
theorem nxt_no (h : m.pc = 0) : nxt M m = .nilFunc := by simp [nxt, h]
theorem nxt_at (h : m.pc ≠ 0) : nxt M m = fnv (nfn m) M := by simp [nxt, h]

theorem nfn_is (m : Mc) (P : Nat → Prop) (a0 : P 30) (a1 : P 35) (a2 : P 40) (a3 : P 46) (a4 : P 31) (a5 : P 36) (a6 : P 41) (a7 : P 48) (a8 : P 50) (a9 : P 52) (b0 : P 47) (b1 : P 32) (b2 : P 37) (b3 : P 42) (b4 : P 49) : P (nfn m) := by
  unfold nfn
  repeat' split
  all_goals assumption
theorem enter_nfn (m : Mc) (a : Array Value) (w : World) : (callFunc (nfn m) a).run Try.prog w = .ok (.enter (nfn m) a) w := by
  refine nfn_is m (fun f => (callFunc f a).run Try.prog w = .ok (.enter f a) w) ?_ ?_ ?_ ?_ ?_ ?_ ?_ ?_ ?_ ?_ ?_ ?_ ?_ ?_ ?_ <;> simp [go_sem]

set_option maxHeartbeats 1000000 in
theorem step_on (w : World) (h : Mi w0 w M S D m L c) (wf : Wf m) (h0 : 0 ≤ c) (h1 : c ≤ 1000000000) (hp : m.pc ≠ 0) :
    Calls Try.prog 14 #[ptr M, ptr S] w fun a w' => a = .returned (.bool (decide ((stp L m).2.pc = 0))) ∧ Mi w0 w' M S D (stp L m).2 (stp L m).1 (c + 1) := by
  have c4 := h.nx
  rw [nxt_at hp] at c4
  have HN := Lib.hid (next_any h hp wf h0 h1)
  have hen := fun (a : Array Value) (w : World) => enter_nfn m a w
  generalize nfn m = f at c4 HN hen
  generalize stp L m = z at HN ⊢
  obtain ⟨L', m'⟩ := z
  have HP := Lib.hid hp; have WF := Lib.hid wf
  clear h hp wf
  by_cases hp' : m'.pc = 0
  · have e1 : decide (m'.pc = 0) = true := by simpa using hp'
    rw [e1]
    have HP' := Lib.hid hp'; clear hp' e1
    go_enter Try.func14, Try.ntmps14
    go_wp2_with (first
      | ((with_reducible refine HN.out.mono ?_); rintro r w1 ⟨rfl, hk⟩; have HK := Lib.hid hk; have d4 := hk.nx; rw [nxt_no HP'.out] at d4; clear hk)
      | fail)
    go_ret
    exact ⟨rfl, HK.out⟩
  · have e1 : decide (m'.pc = 0) = false := by simpa using hp'
    rw [e1]
    have HP' := Lib.hid hp'; clear hp' e1
    go_enter Try.func14, Try.ntmps14
    go_wp2_with (first
      | ((with_reducible refine HN.out.mono ?_); rintro r w1 ⟨rfl, hk⟩; have HK := Lib.hid hk; have d4 := hk.nx; rw [nxt_at HP'.out] at d4; clear hk)
      | fail)
    go_ret
    exact ⟨rfl, HK.out⟩

theorem stp_no {m : Mc} (h : m.pc = 0) (L : List Int) : stp L m = (L, m) := by simp [stp, h]
set_option maxHeartbeats 1000000 in
theorem step_off (w : World) (h : Mi w0 w M S D m L c) (hp : m.pc = 0) :
    Calls Try.prog 14 #[ptr M, ptr S] w fun a w' => a = .returned (.bool true) ∧ w = w' := by
  have c4 := h.nx
  rw [nxt_no hp] at c4
  clear h hp
  go_enter Try.func14, Try.ntmps14
  go_wp2
  go_ret
  exact ⟨rfl, rfl⟩
/-- A step. -/
theorem step_any (w : World) (h : Mi w0 w M S D m L c) (wf : Wf m) (h0 : 0 ≤ c) (h1 : c ≤ 1000000000) :
    Calls Try.prog 14 #[ptr M, ptr S] w fun a w' => a = .returned (.bool (decide ((stp L m).2.pc = 0))) ∧ Mi w0 w' M S D (stp L m).2 (stp L m).1 (cst m c) := by
  by_cases hp : m.pc = 0
  · rw [stp_no hp]
    refine (step_off w h hp).mono ?_
    rintro a w' ⟨rfl, rfl⟩
    exact ⟨by simp [hp], by simpa [cst, hp] using h⟩
  · refine (step_on w h wf h0 h1 hp).mono ?_
    rintro a w' ⟨rfl, hk⟩
    exact ⟨rfl, by simpa [cst, hp] using hk⟩

/-- A machine in memory. -/
def MM (w : World) (M : Nat) (m : Mc) : Prop := ∃ t b v, Mem w M m.e (nxt M m) t b v (rOf m) (xOf m) ∧ (m.pc ≠ 0 → t = m.t ∧ b = m.b ∧ v = m.w)
theorem MM.lt {w : World} (h : MM w M m) : M < w.heap.size := by obtain ⟨t, b, v, h, _⟩ := h; exact (Array.getElem?_eq_some_iff.1 h).1
theorem MM.u3 {w w' : World} {M' : Nat} (h : MM w M m) (u : U3 M' S D w w') (n0 : M ≠ M') (n1 : M ≠ S) (n2 : M ≠ D) : MM w' M m := by
  have hl := h.lt
  obtain ⟨t, b, v, h, k⟩ := h
  exact ⟨t, b, v, (u.block M hl n0 n1 n2).trans h, k⟩
theorem MM.below {w w' : World} (h : MM w M m) (hb : Below w.heap.size w w') : MM w' M m := by
  have hl := h.lt
  obtain ⟨t, b, v, h, k⟩ := h
  exact ⟨t, b, v, (hb.block M hl).trans h, k⟩
theorem MM.mi {w : World} (h : MM w M m) (hs : St w S D L c) (n1 : M ≠ S) (n2 : M ≠ D) : Mi w w M S D m L c := by
  obtain ⟨t, b, v, h, k⟩ := h
  exact ⟨t, b, v, ⟨h, hs, n1, n2, .refl _ _ _ _⟩, k⟩
theorem Mi.mm {w : World} (h : Mi w0 w M S D m L c) : MM w M m := by
  obtain ⟨t, b, v, h, k⟩ := h
  exact ⟨t, b, v, h.mem, k⟩
theorem Mi.st {w : World} (h : Mi w0 w M S D m L c) : St w S D L c := by obtain ⟨t, b, v, h, k⟩ := h; exact h.st
theorem Mi.u {w : World} (h : Mi w0 w M S D m L c) : U3 M S D w0 w := by obtain ⟨t, b, v, h, k⟩ := h; exact h.u
theorem Mi.n1 {w : World} (h : Mi w0 w M S D m L c) : M ≠ S := by obtain ⟨t, b, v, h, k⟩ := h; exact h.n1
theorem Mi.n2 {w : World} (h : Mi w0 w M S D m L c) : M ≠ D := by obtain ⟨t, b, v, h, k⟩ := h; exact h.n2

set_option maxHeartbeats 1000000 in
theorem res_any (w : World) (h : MM w M m) :
    Calls Try.prog 15 #[ptr M] w fun a w' => a = .returned (.tuple #[.int .i64 (rOf m), .int .u64 (xOf m)]) ∧ Below w.heap.size w w' := by
  obtain ⟨t, b, v, h, _⟩ := h
  have c8 : w.cell? ⟨M, 8, none⟩ = some (.int .i64 (rOf m)) := by unfold Mem at h; simp [World.cell?, h]
  have c9 : w.cell? ⟨M, 9, none⟩ = some (.int .u64 (xOf m)) := by unfold Mem at h; simp [World.cell?, h]
  clear h
  go_enter Try.func15, Try.ntmps15
  go_wp2
  go_quiet (fail)
  go_wp2
  go_ret2
  exact ⟨rfl, below_drewN (Below.refl _ _) _⟩

/-- All words are words. -/
def NN (L : List Int) : Prop := ∀ x ∈ L, 0 ≤ x
theorem NN.ld (h : NN L) (a : Int) : 0 ≤ ldq L a := by
  unfold ldq; split
  · rename_i hh
    have hl : a.toNat < L.length := by omega
    rw [List.getD, List.getElem?_eq_getElem hl]
    exact h _ (List.getElem_mem hl)
  · omega
theorem NN.pt (h : NN L) (a : Int) {v : Int} (hv : 0 ≤ v) : NN (ptq L a v) := by
  unfold ptq; split
  · intro x hx
    rcases List.mem_or_eq_of_mem_set hx with h2 | rfl
    · exact h x h2
    · exact hv
  · exact h
theorem u64w_nn (a : Int) : 0 ≤ u64w a := by unfold u64w; omega
theorem ite_ind {α : Type} {P : α → Prop} {q : Prop} [Decidable q] {a b : α} (ha : P a) (hb : P b) : P (if q then a else b) := by split <;> assumption
/-- A machine that knows words alone goes on to know words alone. -/
structure Ws (L : List Int) (m : Mc) : Prop where
  nn : NN L
  ok : EnOk m.e
  b : 0 ≤ m.b
  t : 0 ≤ m.t
  w : 0 ≤ m.w
theorem Ws.wf (h : Ws L m) : Wf m := ⟨h.ok, h.b, h.t⟩
theorem Ws.stp (h : Ws L m) : Ws (stp L m).1 (stp L m).2 := by
  have h1 := h.b
  have h2 := h.t
  have h3 := h.w
  have l := h.nn.ld
  have p := fun a {v} hv => h.nn.pt a (v := v) hv
  have u := u64w_nn
  have key : ∀ P : List Int × Mc → Prop, (∀ L' m', Ws L' m' → P (L', m')) → P (Ytjnenpflpckimaa.stp L m) := by
   intro P hP
   unfold Ytjnenpflpckimaa.stp pushS popS stealS fin
   repeat' refine ite_ind (P := P) ?_ ?_
   all_goals apply hP
   all_goals try (by_cases hw : m.won = true <;> simp only [hw, if_true, if_false, Bool.false_eq_true])
   all_goals first
    | exact ⟨h.nn, h.ok, h1, h2, h3⟩
    | exact ⟨h.nn, h.ok, l _, h2, h3⟩
    | exact ⟨h.nn, h.ok, h1, l _, h3⟩
    | exact ⟨h.nn, h.ok, h1, h2, l _⟩
    | exact ⟨h.nn, h.ok, u _, h2, h3⟩
    | exact ⟨h.nn, h.ok, h1, h2, Int.le_refl 0⟩
    | exact ⟨p _ h3, h.ok, h1, h2, h3⟩
    | exact ⟨p _ h1, h.ok, h1, h2, h3⟩
    | exact ⟨p _ (u _), h.ok, h1, h2, h3⟩
    | exact ⟨p _ (u _), h.ok, h1, h2, Int.le_refl 0⟩
  exact key (fun z => Ws z.1 z.2) fun _ _ hz => hz
theorem Ws.other {k : Mc} (h : Ws L m) (hk : Ws L k) : Ws (Ytjnenpflpckimaa.stp L m).1 k := ⟨h.stp.nn, hk.ok, hk.b, hk.t, hk.w⟩
theorem ws_push {e : En} {v : Int} (h : NN L) (ok : EnOk e) (hv : 0 ≤ v) : Ws L (mPush e v) := ⟨h, ok, Int.le_refl 0, Int.le_refl 0, hv⟩
theorem ws_pop {e : En} (h : NN L) (ok : EnOk e) : Ws L (mPop e) := ⟨h, ok, Int.le_refl 0, Int.le_refl 0, Int.le_refl 0⟩
theorem ws_steal {e : En} (h : NN L) (ok : EnOk e) : Ws L (mSteal e) := ⟨h, ok, Int.le_refl 0, Int.le_refl 0, Int.le_refl 0⟩
theorem cst_le (m : Mc) (c : Int) : c ≤ cst m c ∧ cst m c ≤ c + 1 := by unfold cst; split <;> omega
end Go.Proofs.Ytjnenpflpckimaa
