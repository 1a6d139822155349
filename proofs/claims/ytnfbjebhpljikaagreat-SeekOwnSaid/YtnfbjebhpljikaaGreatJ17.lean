/- A machine's step, and what came of it, walked. A deque's machines that run alone, wherever its ends and entries stand. A machine that is begun, and one that runs to its end, walked. -/
import Derived.Test.YtnfbjebhpljikaaGreatJ16
import Derived.Test.YtnfbjebhpljikaaGreatDgPure
namespace Go.Proofs.YtnfbjebhpljikaaGreat.Dg
open Go.RowKit
set_option linter.unusedVariables false
set_option maxRecDepth 100000
set_option linter.unusedSimpArgs false
variable {w0 : World} {M S D : Nat} {m : Mc} {L : List Int} {c : Int}

theorem eqin_fn (d f M : Nat) (w : World) : (Op.equalIn (d + 1) 73 (fnv f M) .nilFunc).run Tryz.prog w = .ok false w := by
  simp [Op.equalIn, run_underlying Tryz.underlying73]
theorem eqin_nil (d : Nat) (w : World) : (Op.equalIn (d + 1) 73 .nilFunc .nilFunc).run Tryz.prog w = .ok true w := by
  simp [Op.equalIn, run_underlying Tryz.underlying73]
@[go_sem] theorem eql_fn (f M : Nat) (w : World) : (binOp .eql 73 (fnv f M) .nilFunc).run Tryz.prog w = .ok (.bool false) w := by
  have h : (Op.equal 73 (fnv f M) .nilFunc).run Tryz.prog w = .ok false w := eqin_fn 9999 f M w
  simp only [binOp]
  simp [h]
@[go_sem] theorem eql_nil (w : World) : (binOp .eql 73 .nilFunc .nilFunc).run Tryz.prog w = .ok (.bool true) w := by
  have h : (Op.equal 73 .nilFunc .nilFunc).run Tryz.prog w = .ok true w := eqin_nil 9999 w
  simp only [binOp]
  simp [h]

def cst (m : Mc) (c : Int) : Int := if m.pc = 0 then c else c + 1
theorem Mi.nx {w : World} (h : Mi w0 w M S D m L c) : w.cell? ⟨M, 4, none⟩ = some (nxt M m) := by
  obtain ⟨t, b, v, h, _⟩ := h; exact h.c4
theorem nxt_no (h : m.pc = 0) : nxt M m = .nilFunc := by simp [nxt, h]
theorem nxt_at (h : m.pc ≠ 0) : nxt M m = fnv (nfn m) M := by simp [nxt, h]

theorem nfn_is (m : Mc) (P : Nat → Prop) (a0 : P 89) (a1 : P 105) (a2 : P 120) (a3 : P 137) (a4 : P 84) (a5 : P 100) (a6 : P 115) (a7 : P 130) (a8 : P 141) (a9 : P 144) (b0 : P 129) (b1 : P 145) (b2 : P 146) (b3 : P 147) (b4 : P 148) : P (nfn m) := by
  unfold nfn
  repeat' split
  all_goals assumption
theorem enter_nfn (m : Mc) (a : Array Value) (w : World) : (callFunc (nfn m) a).run Tryz.prog w = .ok (.enter (nfn m) a) w := by
  refine nfn_is m (fun f => (callFunc f a).run Tryz.prog w = .ok (.enter f a) w) ?_ ?_ ?_ ?_ ?_ ?_ ?_ ?_ ?_ ?_ ?_ ?_ ?_ ?_ ?_ <;> simp [go_sem]

set_option maxHeartbeats 1000000 in
theorem step_on (w : World) (h : Mi w0 w M S D m L c) (wf : Wf m) (h0 : 0 ≤ c) (h1 : c ≤ 1000000000) (hp : m.pc ≠ 0) :
    Calls Tryz.prog 70 #[ptr M, ptr S] w fun a w' => a = .returned (.bool (decide ((stp L m).2.pc = 0))) ∧ Mi w0 w' M S D (stp L m).2 (stp L m).1 (c + 1) := by
  have c4 := h.nx
  rw [nxt_at hp] at c4
  have HN := Lib.hid (next_any h hp wf h0 h1)
  have hen := fun (a : Array Value) (w : World) => enter_nfn m a w
  generalize nfn m = f at c4 HN hen
  generalize stp L m = z at HN ⊢
  obtain ⟨L', m'⟩ := z
  have HP := Lib.hid hp; have WF := Lib.hid wf
  clear h hp wf
  by_cases hp' : m'.pc = 0
  · have e1 : decide (m'.pc = 0) = true := by simpa using hp'
    rw [e1]
    have HP' := Lib.hid hp'; clear hp' e1
    go_enter Tryz.func70, Tryz.ntmps70
    go_wp2_with (first
      | ((with_reducible refine HN.out.mono ?_); rintro r w1 ⟨rfl, hk⟩; have HK := Lib.hid hk; have d4 := hk.nx; rw [nxt_no HP'.out] at d4; clear hk)
      | fail)
    go_ret
    exact ⟨rfl, HK.out⟩
  · have e1 : decide (m'.pc = 0) = false := by simpa using hp'
    rw [e1]
    have HP' := Lib.hid hp'; clear hp' e1
    go_enter Tryz.func70, Tryz.ntmps70
    go_wp2_with (first
      | ((with_reducible refine HN.out.mono ?_); rintro r w1 ⟨rfl, hk⟩; have HK := Lib.hid hk; have d4 := hk.nx; rw [nxt_at HP'.out] at d4; clear hk)
      | fail)
    go_ret
    exact ⟨rfl, HK.out⟩

theorem stp_no {m : Mc} (h : m.pc = 0) (L : List Int) : stp L m = (L, m) := by simp [stp, h]
set_option maxHeartbeats 1000000 in
theorem step_off (w : World) (h : Mi w0 w M S D m L c) (hp : m.pc = 0) :
    Calls Tryz.prog 70 #[ptr M, ptr S] w fun a w' => a = .returned (.bool true) ∧ w = w' := by
  have c4 := h.nx
  rw [nxt_no hp] at c4
  clear h hp
  go_enter Tryz.func70, Tryz.ntmps70
  go_wp2
  go_ret
  exact ⟨rfl, rfl⟩
/-- A step. -/
theorem step_any (w : World) (h : Mi w0 w M S D m L c) (wf : Wf m) (h0 : 0 ≤ c) (h1 : c ≤ 1000000000) :
    Calls Tryz.prog 70 #[ptr M, ptr S] w fun a w' => a = .returned (.bool (decide ((stp L m).2.pc = 0))) ∧ Mi w0 w' M S D (stp L m).2 (stp L m).1 (cst m c) := by
  by_cases hp : m.pc = 0
  · rw [stp_no hp]
    refine (step_off w h hp).mono ?_
    rintro a w' ⟨rfl, rfl⟩
    exact ⟨by simp [hp], by simpa [cst, hp] using h⟩
  · refine (step_on w h wf h0 h1 hp).mono ?_
    rintro a w' ⟨rfl, hk⟩
    exact ⟨rfl, by simpa [cst, hp] using hk⟩

/-- A machine in memory. -/
def MM (w : World) (M : Nat) (m : Mc) : Prop := ∃ t b v, Mem w M m.e (nxt M m) t b v (rOf m) (xOf m) ∧ (m.pc ≠ 0 → t = m.t ∧ b = m.b ∧ v = m.w)
theorem MM.lt {w : World} (h : MM w M m) : M < w.heap.size := by obtain ⟨t, b, v, h, _⟩ := h; exact (Array.getElem?_eq_some_iff.1 h).1
theorem MM.u3 {w w' : World} {M' : Nat} (h : MM w M m) (u : U3 M' S D w w') (n0 : M ≠ M') (n1 : M ≠ S) (n2 : M ≠ D) : MM w' M m := by
  have hl := h.lt
  obtain ⟨t, b, v, h, k⟩ := h
  exact ⟨t, b, v, (u.block M hl n0 n1 n2).trans h, k⟩
theorem MM.below {w w' : World} (h : MM w M m) (hb : Below w.heap.size w w') : MM w' M m := by
  have hl := h.lt
  obtain ⟨t, b, v, h, k⟩ := h
  exact ⟨t, b, v, (hb.block M hl).trans h, k⟩
theorem MM.mi {w : World} (h : MM w M m) (hs : St w S D L c) (n1 : M ≠ S) (n2 : M ≠ D) : Mi w w M S D m L c := by
  obtain ⟨t, b, v, h, k⟩ := h
  exact ⟨t, b, v, ⟨h, hs, n1, n2, .refl _ _ _ _⟩, k⟩
theorem Mi.mm {w : World} (h : Mi w0 w M S D m L c) : MM w M m := by
  obtain ⟨t, b, v, h, k⟩ := h
  exact ⟨t, b, v, h.mem, k⟩
theorem Mi.st {w : World} (h : Mi w0 w M S D m L c) : St w S D L c := by obtain ⟨t, b, v, h, k⟩ := h; exact h.st
theorem Mi.u {w : World} (h : Mi w0 w M S D m L c) : U3 M S D w0 w := by obtain ⟨t, b, v, h, k⟩ := h; exact h.u
theorem Mi.n1 {w : World} (h : Mi w0 w M S D m L c) : M ≠ S := by obtain ⟨t, b, v, h, k⟩ := h; exact h.n1
theorem Mi.n2 {w : World} (h : Mi w0 w M S D m L c) : M ≠ D := by obtain ⟨t, b, v, h, k⟩ := h; exact h.n2

set_option maxHeartbeats 1000000 in
theorem res_any (w : World) (h : MM w M m) :
    Calls Tryz.prog 71 #[ptr M] w fun a w' => a = .returned (.tuple #[.int .i64 (rOf m), .int .u64 (xOf m)]) ∧ Below w.heap.size w w' := by
  obtain ⟨t, b, v, h, _⟩ := h
  have c8 : w.cell? ⟨M, 8, none⟩ = some (.int .i64 (rOf m)) := by unfold Mem at h; simp [World.cell?, h]
  have c9 : w.cell? ⟨M, 9, none⟩ = some (.int .u64 (xOf m)) := by unfold Mem at h; simp [World.cell?, h]
  clear h
  go_enter Tryz.func71, Tryz.ntmps71
  go_wp2
  go_quiet (fail)
  go_wp2
  go_ret2
  exact ⟨rfl, below_drewN (Below.refl _ _) _⟩

/-- All words are words. -/
def NN (L : List Int) : Prop := ∀ x ∈ L, 0 ≤ x
theorem NN.ld (h : NN L) (a : Int) : 0 ≤ ldq L a := by
  unfold ldq; split
  · rename_i hh
    have hl : a.toNat < L.length := by omega
    rw [List.getD, List.getElem?_eq_getElem hl]
    exact h _ (List.getElem_mem hl)
  · omega
theorem NN.pt (h : NN L) (a : Int) {v : Int} (hv : 0 ≤ v) : NN (ptq L a v) := by
  unfold ptq; split
  · intro x hx
    rcases List.mem_or_eq_of_mem_set hx with h2 | rfl
    · exact h x h2
    · exact hv
  · exact h
theorem u64w_nn (a : Int) : 0 ≤ u64w a := by unfold u64w; omega
theorem ite_ind {α : Type} {P : α → Prop} {q : Prop} [Decidable q] {a b : α} (ha : P a) (hb : P b) : P (if q then a else b) := by split <;> assumption
/-- A machine that knows words alone goes on to know words alone. -/
structure Ws (L : List Int) (m : Mc) : Prop where
  nn : NN L
  ok : EnOk m.e
  b : 0 ≤ m.b
  t : 0 ≤ m.t
  w : 0 ≤ m.w
theorem Ws.wf (h : Ws L m) : Wf m := ⟨h.ok, h.b, h.t⟩
theorem Ws.stp (h : Ws L m) : Ws (stp L m).1 (stp L m).2 := by
  have h1 := h.b
  have h2 := h.t
  have h3 := h.w
  have l := h.nn.ld
  have p := fun a {v} hv => h.nn.pt a (v := v) hv
  have u := u64w_nn
  have key : ∀ P : List Int × Mc → Prop, (∀ L' m', Ws L' m' → P (L', m')) → P (Dg.stp L m) := by
   intro P hP
   unfold Dg.stp pushS popS stealS fin
   repeat' refine ite_ind (P := P) ?_ ?_
   all_goals apply hP
   all_goals try (by_cases hw : m.won = true <;> simp only [hw, if_true, if_false, Bool.false_eq_true])
   all_goals first
    | exact ⟨h.nn, h.ok, h1, h2, h3⟩
    | exact ⟨h.nn, h.ok, l _, h2, h3⟩
    | exact ⟨h.nn, h.ok, h1, l _, h3⟩
    | exact ⟨h.nn, h.ok, h1, h2, l _⟩
    | exact ⟨h.nn, h.ok, u _, h2, h3⟩
    | exact ⟨h.nn, h.ok, h1, h2, Int.le_refl 0⟩
    | exact ⟨p _ h3, h.ok, h1, h2, h3⟩
    | exact ⟨p _ h1, h.ok, h1, h2, h3⟩
    | exact ⟨p _ (u _), h.ok, h1, h2, h3⟩
    | exact ⟨p _ (u _), h.ok, h1, h2, Int.le_refl 0⟩
  exact key (fun z => Ws z.1 z.2) fun _ _ hz => hz
theorem Ws.other {k : Mc} (h : Ws L m) (hk : Ws L k) : Ws (Dg.stp L m).1 k := ⟨h.stp.nn, hk.ok, hk.b, hk.t, hk.w⟩
theorem ws_push {e : En} {v : Int} (h : NN L) (ok : EnOk e) (hv : 0 ≤ v) : Ws L (mPush e v) := ⟨h, ok, Int.le_refl 0, Int.le_refl 0, hv⟩
theorem ws_pop {e : En} (h : NN L) (ok : EnOk e) : Ws L (mPop e) := ⟨h, ok, Int.le_refl 0, Int.le_refl 0, Int.le_refl 0⟩
theorem ws_steal {e : En} (h : NN L) (ok : EnOk e) : Ws L (mSteal e) := ⟨h, ok, Int.le_refl 0, Int.le_refl 0, Int.le_refl 0⟩
theorem cst_le (m : Mc) (c : Int) : c ≤ cst m c ∧ cst m c ≤ c + 1 := by unfold cst; split <;> omega
end Go.Proofs.YtnfbjebhpljikaaGreat.Dg

namespace Go.Proofs.YtnfbjebhpljikaaGreat.Dg
set_option linter.unusedVariables false
set_option maxRecDepth 100000
set_option linter.unusedSimpArgs false
/-! A machine that runs alone. -/
def runs : Nat → List Int → Mc → List Int × Mc
  | 0, L, m => (L, m)
  | k + 1, L, m => runs k (stp L m).1 (stp L m).2
theorem runs_done {L : List Int} {m : Mc} (h : m.pc = 0) (k : Nat) : runs k L m = (L, m) := by
  have e1 : stp L m = (L, m) := by simp [stp, h]
  induction k with
  | zero => rfl
  | succ k ih => simp only [runs, e1]; exact ih

/-- What comes of one that runs alone to its end: a push (w), or a pop. -/
inductive AloneEv (n : Nat) (w : Int) (k : Nat) (m' : Mc) (R Q' : List Int) : Prop
  | pushed (hk : k = 1) (ho : m'.out = 1) (h3 : Q' = R ++ [w]) (h4 : R.length < n)
  | full (hk : k = 1) (ho : m'.out = 2) (h3 : Q' = R) (h4 : n ≤ R.length)
  | took (hk : k = 2) (ho : m'.out = 1) (h3 : R = Q' ++ [m'.w])
  | none (hk : k = 2) (ho : m'.out = 3) (h3 : Q' = R) (h4 : R = []) (h5 : m'.w = 0)

theorem alone_any {n : Nat} {e : En} {w : Int} (k : Nat) : ∀ {L : List Int} {T β g bc : Int} {Q : List Int} {m : Mc}, Dq n e L T β bc Q → Ph n e L T β Q w g bc m → m.pc ≠ 0 → β < 1000 → left m ≤ k →
    (m.kind = 1 → hand m = []) →
    ∃ T' β' Q', Dq n e (runs k L m).1 T' β' β' Q' ∧ (runs k L m).2.pc = 0 ∧ (runs k L m).2.e = e ∧ β' ≤ β + 1 ∧ AloneEv n w m.kind (runs k L m).2 (Q ++ hand m) Q' := by
  induction k with
  | zero => 
    intro L T β g bc Q m D P hp hs hk
    have := own_left (L := L) P hp; omega
  | succ k ih =>
    intro L T β g bc Q m D P hp hs hk hh
    have hl := own_left (L := L) P hp
    obtain ⟨T', β', g', bc', Q', D', P', h1, h2, h3, h4, ev⟩ := own_step D P hp hs
    simp only [runs]
    by_cases hp' : (stp L m).2.pc = 0
    · rw [runs_done hp']
      have hidle : bc' = β' ∧ (stp L m).2.e = e := by
        generalize (stp L m).2 = m2 at P' hp'
        cases P' <;> simp_all
      refine ⟨T', β', Q', by rw [← hidle.1]; exact hidle.1 ▸ D', hp', hidle.2, h3, ?_⟩
      cases ev with
      | on h => exact absurd hp' h
      | pushed h hk ho h1 h2 h3 h4 => exact .pushed hk ho (by rw [h1]; simpa using h3) (by rw [h1]; simpa using h4)
      | full h hk ho h1 h2 h3 h4 => exact .full hk ho (by rw [h1]; simpa using h3) (by rw [h1]; simpa using h4)
      | took h hk ho h2 h3 hs => exact .took hk ho h3
      | none h hk ho h1 h2 h3 h4 h5 => exact .none hk ho (by rw [h1]; simpa using h3) (by rw [h1]; simpa using h4) h5
    · have hb := h4 hp'
      have hev : (stp L m).2.kind = m.kind ∧ Q ++ hand m = Q' ++ hand (stp L m).2 := by
        cases ev with
        | on h hk h2 hs => exact ⟨hk, h2⟩
        | pushed h => exact absurd h hp'
        | full h => exact absurd h hp'
        | took h => exact absurd h hp'
        | none h => exact absurd h hp'
      obtain ⟨T2, β2, Q2, D2, p2, e2, b2, ev2⟩ := ih D' P' hp' (by omega) (by omega) (fun hk1 => by simp [hand, hk1])
      exact ⟨T2, β2, Q2, D2, p2, e2, by omega, by rw [← hev.1, hev.2]; exact ev2⟩
/-- A push alone, and a pop alone. -/
theorem push_alone {n : Nat} {e : En} {L : List Int} {T β : Int} {Q : List Int} (D : Dq n e L T β β Q) (hs : β < 1000) (w : Int) (k : Nat) (hk6 : 4 ≤ k) :
    ∃ T' β' Q', Dq n e (runs k L (mPush e w)).1 T' β' β' Q' ∧ (runs k L (mPush e w)).2.pc = 0 ∧ β' ≤ β + 1 ∧
      (((runs k L (mPush e w)).2.out = 1 ∧ Q' = Q ++ [w] ∧ Q.length < n) ∨ ((runs k L (mPush e w)).2.out = 2 ∧ Q' = Q ∧ n ≤ Q.length)) := by
  obtain ⟨T', β', Q', D', p, _, b, ev⟩ := alone_any (w := w) k D (.push1 0 0 false 0) (by simp) hs (by simp [left]; omega) (fun _ => by simp [hand])
  refine ⟨T', β', Q', D', p, b, ?_⟩
  cases ev with
  | pushed hk ho h3 h4 => exact .inl ⟨ho, by simpa [hand] using h3, by simpa [hand] using h4⟩
  | full hk ho h3 h4 => exact .inr ⟨ho, by simpa [hand] using h3, by simpa [hand] using h4⟩
  | took hk => cases hk
  | none hk => cases hk
theorem pop_alone {n : Nat} {e : En} {L : List Int} {T β : Int} {Q : List Int} (D : Dq n e L T β β Q) (hs : β < 1000) (k : Nat) (hk6 : 6 ≤ k) :
    ∃ T' β' Q', Dq n e (runs k L (mPop e)).1 T' β' β' Q' ∧ (runs k L (mPop e)).2.pc = 0 ∧ β' ≤ β + 1 ∧
      (((runs k L (mPop e)).2.out = 1 ∧ Q = Q' ++ [(runs k L (mPop e)).2.w]) ∨ ((runs k L (mPop e)).2.out = 3 ∧ Q' = [] ∧ Q = [] ∧ (runs k L (mPop e)).2.w = 0)) := by
  obtain ⟨T', β', Q', D', p, _, b, ev⟩ := alone_any (w := 0) k D (.pop1 0 0 0 false 0) (by simp) hs (by simp [left]; omega) (fun h => by simp [hand])
  refine ⟨T', β', Q', D', p, b, ?_⟩
  cases ev with
  | pushed hk => cases hk
  | full hk => cases hk
  | took hk ho h3 => exact .inl ⟨ho, by simpa [hand, mPop] using h3⟩
  | none hk ho h3 h4 h5 =>
    have h4' : Q = [] := by simpa [hand] using h4
    exact .inr ⟨ho, by rw [h3]; simpa [hand] using h4', h4', h5⟩

/-- A push alone, step by step: a deque that isn't full, one that is. -/
theorem push_four {n : Nat} {e : En} {L : List Int} {T β : Int} {Q : List Int} (D : Dq n e L T β β Q) (hs : β < 1000) (w : Int) (hf : (Q.length : Int) < n) :
    (stp L (mPush e w)).2.pc ≠ 0 ∧ (runs 2 L (mPush e w)).2.pc ≠ 0 ∧ (runs 3 L (mPush e w)).2.pc ≠ 0 ∧ (runs 4 L (mPush e w)).2.pc = 0 ∧ (runs 4 L (mPush e w)).2.out = 1 := by
  have h0 := D.t0
  have hq := D.q
  have h1 := D.ld1
  rw [u64_in (by omega) (by omega)] at h1
  have h2 := D.ld0
  have h3 := ahead_in (a := β) (b := T) (by omega) (by have := D.full; omega)
  have h4 := D.g.rm
  have hc : ¬ (n : Int) ≤ β - T := by omega
  have e1 : stp L (mPush e w) = (L, ⟨1, 2, e, β, 0, w, false, 0⟩) := by simp [stp, pushS, mPush, h1]
  have e2 : stp L ⟨1, 2, e, β, 0, w, false, 0⟩ = (L, ⟨1, 3, e, β, T, w, false, 0⟩) := by simp [stp, pushS, h2, h3, h4, hc]
  have e3 : stp L ⟨1, 3, e, β, T, w, false, 0⟩ = (ptq L (entOf e β) w, ⟨1, 4, e, β, T, w, false, 0⟩) := by simp [stp, pushS]
  have e4 : ∀ M, stp M ⟨1, 4, e, β, T, w, false, 0⟩ = (ptq M e.bot (u64w (β + 1)), ⟨1, 0, e, β, T, 0, false, 1⟩) := fun M => by simp [stp, pushS, fin]
  simp only [runs, e1, e2, e3, e4]
  simp
theorem push_two {n : Nat} {e : En} {L : List Int} {T β : Int} {Q : List Int} (D : Dq n e L T β β Q) (hs : β < 1000) (w : Int) (hf : (n : Int) ≤ Q.length) :
    ∃ m, stp L (mPush e w) = (L, ⟨1, 2, e, β, 0, w, false, 0⟩) ∧ stp L ⟨1, 2, e, β, 0, w, false, 0⟩ = (L, m) ∧ m.pc = 0 ∧ m.out = 2 := by
  have h0 := D.t0
  have hq := D.q
  have h1 := D.ld1
  rw [u64_in (by omega) (by omega)] at h1
  have h2 := D.ld0
  have h3 := ahead_in (a := β) (b := T) (by omega) (by have := D.full; omega)
  have h4 := D.g.rm
  have hc : (n : Int) ≤ β - T := by omega
  exact ⟨⟨1, 0, e, β, 0, 0, false, 2⟩, by simp [stp, pushS, mPush, h1], by simp [stp, pushS, h2, h3, h4, hc, fin], rfl, rfl⟩
end Go.Proofs.YtnfbjebhpljikaaGreat.Dg

namespace Go.Proofs.YtnfbjebhpljikaaGreat.Dg
open Go.RowKit
set_option linter.unusedVariables false
set_option maxRecDepth 100000
set_option linter.unusedSimpArgs false
variable {w0 : World} {M S D : Nat} {m : Mc} {L : List Int} {c : Int}

abbrev enV (e : En) : Value := .agg #[.int .i64 e.top, .int .i64 e.bot, .int .i64 e.ent, .int .i64 e.room]
/-- A machine in new memory. -/
def NewM (w : World) (m : Mc) (a : Ending) (w' : World) : Prop := ∃ M, a = .returned (ptr M) ∧ w.heap.size ≤ M ∧ MM w' M m ∧ Below w.heap.size w w'

theorem new_m {e : En} {v : Int} {m : Mc} {g : Nat} (hm : m.e = e ∧ nfn m = g ∧ m.pc = 1 ∧ m.t = 0 ∧ m.b = 0 ∧ m.w = v) (w : World) (o : Obj) (R : Int) (hR : R = roomOf e) :
    NewM w m (.returned (ptr (w.heap.size + 1))) ((w.alloc o).alloc (.cells #[.int .i64 e.top, .int .i64 e.bot, .int .i64 e.ent, .int .i64 R, fnv g (w.heap.size + 1), .int .u64 0, .int .u64 0, .int .u64 v, .int .i64 0, .int .u64 0] 110)) := by
  obtain ⟨rfl, rfl, hp, h1, h2, rfl⟩ := hm
  subst hR
  refine ⟨w.heap.size + 1, rfl, by omega, ⟨0, 0, m.w, ?_, fun _ => ⟨h1.symm, h2.symm, rfl⟩⟩, below_alloc0 (below_alloc0 (Below.refl _ _) _) _⟩
  have hn : nxt (w.heap.size + 1) m = fnv (nfn m) (w.heap.size + 1) := nxt_at (by omega)
  have hr : rOf m = 0 := by simp [rOf, hp]
  have hx : xOf m = 0 := by simp [xOf, hp]
  unfold Mem
  rw [hn, hr, hx]
  have key : ∀ X : Obj, ((w.heap.push o).push X)[w.heap.size + 1]? = some X := by
    intro X
    have e : w.heap.size + 1 = (w.heap.push o).size := by simp
    rw [e]; exact Array.getElem?_push_size
  exact key _

set_option maxHeartbeats 1000000 in
theorem begun_any (f g : Nat) (hf : f = 74 ∧ g = 89 ∨ f = 69 ∧ g = 84 ∨ f = 142 ∧ g = 145) (e : En) (v : Int) (m : Mc) (hm : m.e = e ∧ nfn m = g ∧ m.pc = 1 ∧ m.t = 0 ∧ m.b = 0 ∧ m.w = v) (w : World) :
    Calls Tryz.prog 68 #[enV e, .int .u64 v, .func (.func f) #[] #[]] w (NewM w m) := by
  have HM := Lib.hid hm
  clear hm
  have hmf : ∀ (fn : Fn) (first cap : Array Value) (w : World), (Instr.makeFunc fn first cap).run Tryz.prog w = .ok (.func fn first cap) w := fun _ _ _ _ => rfl
  by_cases hr : e.room < 1
  · have hmx : Lay.imax e.room 1 = 1 := by unfold Lay.imax; omega
    rcases hf with ⟨rfl, rfl⟩ | ⟨rfl, rfl⟩ | ⟨rfl, rfl⟩
    all_goals
      go_enter Tryz.func68, Tryz.ntmps68
      go_wp2
      go_ret
      exact new_m HM.out w _ 1 (by unfold roomOf; split <;> omega)
  · have hmx : Lay.imax e.room 1 = e.room := by unfold Lay.imax; omega
    rcases hf with ⟨rfl, rfl⟩ | ⟨rfl, rfl⟩ | ⟨rfl, rfl⟩
    all_goals
      go_enter Tryz.func68, Tryz.ntmps68
      go_wp2
      go_ret
      exact new_m HM.out w _ e.room (by unfold roomOf; split <;> omega)

theorem newM_step {w w1 w' : World} {m : Mc} {a : Ending} (hb : Below w.heap.size w w1) (h : NewM w1 m a w') : NewM w m a w' := by
  obtain ⟨M, rfl, hM, hm, hb'⟩ := h
  exact ⟨M, rfl, Nat.le_trans hb.size hM, hm, below_step hb hb.size hb'⟩
theorem below_al (w : World) (o : Obj) : Below w.heap.size w (w.alloc o) := below_alloc0 (Below.refl _ _) o

set_option maxHeartbeats 1000000 in
theorem push_any (e : En) (v : Int) (w : World) : Calls Tryz.prog 48 #[enV e, .int .u64 v] w (NewM w (mPush e v)) := by
  go_enter Tryz.func48, Tryz.ntmps48
  go_wp2_with (first
    | (go_at_call 68; (with_reducible refine (begun_any 74 89 (.inl ⟨rfl, rfl⟩) e v (mPush e v) ⟨rfl, rfl, rfl, rfl, rfl, rfl⟩ _).mono ?_); intro a w1 hk; have HK := Lib.hid (newM_step (below_al w _) hk); obtain ⟨M, rfl, _, _, _⟩ := hk)
    | fail)
  go_ret
  exact HK.out
set_option maxHeartbeats 1000000 in
theorem pop_any (e : En) (w : World) : Calls Tryz.prog 45 #[enV e] w (NewM w (mPop e)) := by
  go_enter Tryz.func45, Tryz.ntmps45
  go_wp2_with (first
    | (go_at_call 68; (with_reducible refine (begun_any 69 84 (.inr (.inl ⟨rfl, rfl⟩)) e 0 (mPop e) ⟨rfl, rfl, rfl, rfl, rfl, rfl⟩ _).mono ?_); intro a w1 hk; have HK := Lib.hid (newM_step (below_al w _) hk); obtain ⟨M, rfl, _, _, _⟩ := hk)
    | fail)
  go_ret
  exact HK.out
set_option maxHeartbeats 1000000 in
theorem steal_any (e : En) (w : World) : Calls Tryz.prog 132 #[enV e] w (NewM w (mSteal e)) := by
  go_enter Tryz.func132, Tryz.ntmps132
  go_wp2_with (first
    | (go_at_call 68; (with_reducible refine (begun_any 142 145 (.inr (.inr ⟨rfl, rfl⟩)) e 0 (mSteal e) ⟨rfl, rfl, rfl, rfl, rfl, rfl⟩ _).mono ?_); intro a w1 hk; have HK := Lib.hid (newM_step (below_al w _) hk); obtain ⟨M, rfl, _, _, _⟩ := hk)
    | fail)
  go_ret
  exact HK.out

theorem runs_succ (k : Nat) (L : List Int) (m : Mc) : runs (k + 1) L m = runs k (stp L m).1 (stp L m).2 := rfl
theorem stp_runs (k : Nat) : ∀ (L : List Int) (m : Mc), stp (runs k L m).1 (runs k L m).2 = runs (k + 1) L m := by
  induction k with
  | zero => intro L m; rfl
  | succ k ih => intro L m; rw [runs_succ, ih, ← runs_succ]
theorem Ws.runs (k : Nat) : ∀ {L : List Int} {m : Mc}, Ws L m → Ws (Dg.runs k L m).1 (Dg.runs k L m).2 := by
  induction k with
  | zero => intro L m h; exact h
  | succ k ih => intro L m h; rw [runs_succ]; exact ih h.stp
attribute [local irreducible] runs

/-- A machine that has gone on for i steps. -/
def On (w0 w : World) (M S D : Nat) (m : Mc) (L : List Int) (i : Nat) (k : Int) : Prop := ∃ c, 0 ≤ c ∧ c ≤ k + i ∧ Mi w0 w M S D (runs i L m).2 (runs i L m).1 c
theorem On.start {w : World} (h : Mi w0 w M S D m L c) (h0 : 0 ≤ c) {k : Int} (hk : c ≤ k) : On w0 w M S D m L 0 k := ⟨c, h0, by omega, by unfold runs; exact h⟩
theorem on_step {w : World} {i : Nat} {k : Int} (h : On w0 w M S D m L i k) (ws : Ws L m) (hk : k + i ≤ 1000000000) :
    Calls Tryz.prog 70 #[ptr M, ptr S] w fun a w' => a = .returned (.bool (decide ((runs (i + 1) L m).2.pc = 0))) ∧ On w0 w' M S D m L (i + 1) k := by
  obtain ⟨c, h0, h1, h⟩ := h
  refine (step_any w h (ws.runs i).wf h0 (by omega)).mono ?_
  rintro a w' ⟨rfl, hm⟩
  rw [stp_runs] at hm ⊢
  have := cst_le (runs i L m).2 c
  exact ⟨rfl, _, by omega, by omega, hm⟩
theorem On.mm {w : World} {i : Nat} {k : Int} (h : On w0 w M S D m L i k) : MM w M (runs i L m).2 := by
  obtain ⟨c, h0, h1, h⟩ := h; exact h.mm

/-- What came of a machine that has run to its end. -/
def Ran (w0 : World) (M S D : Nat) (m : Mc) (L : List Int) (k : Int) (a : Ending) (w' : World) : Prop :=
  a = .returned (.tuple #[.int .i64 (rOf (runs 8 L m).2), .int .u64 (xOf (runs 8 L m).2)]) ∧ ∃ w1, On w0 w1 M S D m L 8 k ∧ Below w1.heap.size w1 w'

end Go.Proofs.YtnfbjebhpljikaaGreat.Dg
