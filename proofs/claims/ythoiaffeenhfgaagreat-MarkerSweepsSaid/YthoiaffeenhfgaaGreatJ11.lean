/-  -/
import Derived.Test.YthoiaffeenhfgaaGreatJ1
import Derived.Test.YthoiaffeenhfgaaGreatJ17
namespace Go.Proofs.YthoiaffeenhfgaaGreat
set_option linter.unusedVariables false
set_option linter.unusedSimpArgs false
structure Pg where
  sp : Sk
  po : Sk
  tk : Int → Int → Int
  mn : Int → Int
structure Gp (n N : Nat) (g : Pg) : Prop where
  s : Gk n N g.sp
  p : Gk n N g.po
  links : g.po.links = g.sp.links
  hne : g.sp.head ≠ g.po.head
  t : ∀ x j : Int, 1 ≤ x → x ≤ n → 0 ≤ j → j < 4 → 0 ≤ g.tk x j ∧ g.tk x j < N ∧ g.tk x j ≠ g.sp.head ∧ g.tk x j ≠ g.po.head
  tl : ∀ x j y : Int, 1 ≤ x → x ≤ n → 0 ≤ j → j < 4 → 1 ≤ y → y ≤ n → g.tk x j ≠ atOf g.sp.links y
  tm : ∀ x j y : Int, 1 ≤ x → x ≤ n → 0 ≤ j → j < 4 → 1 ≤ y → y ≤ n → g.tk x j ≠ g.mn y
  ti : ∀ x j y i : Int, 1 ≤ x → x ≤ n → 0 ≤ j → j < 4 → 1 ≤ y → y ≤ n → 0 ≤ i → i < 4 → g.tk x j = g.tk y i → x = y ∧ j = i
  m : ∀ x : Int, 1 ≤ x → x ≤ n → 0 ≤ g.mn x ∧ g.mn x < N ∧ g.mn x ≠ g.sp.head ∧ g.mn x ≠ g.po.head
  ml : ∀ x y : Int, 1 ≤ x → x ≤ n → 1 ≤ y → y ≤ n → g.mn x ≠ atOf g.sp.links y
  mi : ∀ x y : Int, 1 ≤ x → x ≤ n → 1 ≤ y → y ≤ n → g.mn x = g.mn y → x = y
structure Pm where
  kind : Nat
  pc : Nat
  ts : List Int
  j : Int
  p : Int
  x : Sm
def pstp (g : Pg) (L : List Int) (m : Pm) : List Int × Pm :=
  if m.pc = 1 then
    ((sstp L m.x).1,
     if (sstp L m.x).2.pc = 0 then (if (sstp L m.x).2.item = 0 then { m with x := mPop g.sp, p := 0 } else { m with x := (sstp L m.x).2, p := (sstp L m.x).2.item, pc := 2 })
     else { m with x := (sstp L m.x).2 })
  else if m.pc = 2 then
    (ptq L (g.tk m.p m.j) (m.ts.getD m.j.toNat 0), { m with j := m.j + 1, pc := if m.j + 1 = m.ts.length then 3 else 2 })
  else if m.pc = 3 then
    (ptq L (g.mn m.p) m.ts.length, { m with x := mPush g.po m.p, pc := 4 })
  else if m.pc = 4 then
    ((sstp L m.x).1,
     if (sstp L m.x).2.pc = 0 then { m with x := (sstp L m.x).2, p := (sstp L m.x).2.item, pc := 0 } else { m with x := (sstp L m.x).2 })
  else (L, m)
def mnone : Sm := ⟨0, 0, ⟨0, []⟩, 0, 0, 0, 0⟩
def pPut (g : Pg) (ts : List Int) : Pm := if ts = [] then ⟨1, 0, [], 0, 0, mnone⟩ else ⟨1, 1, ts.take 4, 0, 0, mPop g.sp⟩
def pTake (g : Pg) : Pm := ⟨2, 4, [], 0, 0, mPop g.po⟩
def pBack (n : Nat) (g : Pg) (p : Int) : Pm := if p < 1 ∨ (n : Int) < p then ⟨3, 0, [], 0, 0, mnone⟩ else ⟨3, 4, [], 0, 0, mPush g.sp p⟩
def pPacket (m : Pm) : Int := if 0 < m.pc then 0 else m.p
def tw (g : Pg) (L : List Int) (p : Int) : Int := L.getD (g.tk p 0).toNat 0
def mw (g : Pg) (L : List Int) (p : Int) : Int := L.getD (g.mn p).toNat 0
inductive Th (n : Nat) (g : Pg) (L : List Int) (Ts : Int) (Qs : List Int) (Tp : Int) (Qp : List Int) : Pm → List Int → List Int → Prop
  | idle (kd : Nat) (ts : List Int) (j p : Int) (x : Sm) (h : List Int) (hl : h.length ≤ 1) : Th n g L Ts Qs Tp Qp ⟨kd, 0, ts, j, p, x⟩ h []
  | put1 (t p : Int) (x : Sm) (hx : Sp n g.sp L Ts Qs x) (hk : x.kind = 2) (hp : x.pc ≠ 0) : Th n g L Ts Qs Tp Qp ⟨1, 1, [t], 0, p, x⟩ [] [t]
  | put2 (t p : Int) (x : Sm) (hr : 1 ≤ p ∧ p ≤ n) : Th n g L Ts Qs Tp Qp ⟨1, 2, [t], 0, p, x⟩ [p] [t]
  | put3 (t p : Int) (x : Sm) (hr : 1 ≤ p ∧ p ≤ n) (ht : tw g L p = t) : Th n g L Ts Qs Tp Qp ⟨1, 3, [t], 1, p, x⟩ [p] [t]
  | put4 (t p : Int) (x : Sm) (hr : 1 ≤ p ∧ p ≤ n) (ht : tw g L p = t) (hm : mw g L p = 1) (hx : Sp n g.po L Tp Qp x) (hk : x.kind = 1) (hi : x.item = p) (hp : x.pc ≠ 0) : Th n g L Ts Qs Tp Qp ⟨1, 4, [t], 1, p, x⟩ [p] [t]
  | take (ts : List Int) (j p : Int) (x : Sm) (hx : Sp n g.po L Tp Qp x) (hk : x.kind = 2) (hp : x.pc ≠ 0) : Th n g L Ts Qs Tp Qp ⟨2, 4, ts, j, p, x⟩ [] []
  | back (ts : List Int) (j p0 p : Int) (x : Sm) (hr : 1 ≤ p ∧ p ≤ n) (hx : Sp n g.sp L Ts Qs x) (hk : x.kind = 1) (hi : x.item = p) (hp : x.pc ≠ 0) : Th n g L Ts Qs Tp Qp ⟨3, 4, ts, j, p0, x⟩ [p] []
section
variable {n : Nat} {g : Pg} {L : List Int} {Ts Tp : Int} {Qs Qp : List Int}
end
end Go.Proofs.YthoiaffeenhfgaaGreat

namespace Go.Proofs.YthoiaffeenhfgaaGreat
set_option linter.unusedVariables false
set_option linter.unusedSimpArgs false
def pruns (g : Pg) : Nat → List Int → Pm → List Int × Pm
  | 0, L, m => (L, m)
  | k + 1, L, m => pruns g k (pstp g L m).1 (pstp g L m).2
section
variable {n : Nat} {g : Pg} {k : Sk} {L : List Int} {T : Int} {Q : List Int}
end
end Go.Proofs.YthoiaffeenhfgaaGreat

namespace Go.Proofs.YthoiaffeenhfgaaGreat.Dg
open Go.RowKit
set_option linter.unusedVariables false
set_option maxRecDepth 100000
set_option linter.unusedSimpArgs false
variable {w0 : World} {M S D : Nat} {m : Mc} {L : List Int} {c : Int}
theorem eqin_fn (d f M : Nat) (w : World) : (Op.equalIn (d + 1) 104 (fnv f M) .nilFunc).run Tryz.prog w = .ok false w := by
  simp [Op.equalIn, run_underlying Tryz.underlying104]
theorem eqin_nil (d : Nat) (w : World) : (Op.equalIn (d + 1) 104 .nilFunc .nilFunc).run Tryz.prog w = .ok true w := by
  simp [Op.equalIn, run_underlying Tryz.underlying104]
@[go_sem] theorem eql_fn (f M : Nat) (w : World) : (binOp .eql 104 (fnv f M) .nilFunc).run Tryz.prog w = .ok (.bool false) w := by
  have h : (Op.equal 104 (fnv f M) .nilFunc).run Tryz.prog w = .ok false w := eqin_fn 9999 f M w
  simp only [binOp]
  simp [h]
@[go_sem] theorem eql_nil (w : World) : (binOp .eql 104 .nilFunc .nilFunc).run Tryz.prog w = .ok (.bool true) w := by
  have h : (Op.equal 104 .nilFunc .nilFunc).run Tryz.prog w = .ok true w := eqin_nil 9999 w
  simp only [binOp]
  simp [h]
def cst (m : Mc) (c : Int) : Int := if m.pc = 0 then c else c + 1
theorem Mi.nx {w : World} (h : Mi w0 w M S D m L c) : w.cell? ⟨M, 4, none⟩ = some (nxt M m) := by
  obtain ⟨t, b, v, h, _⟩ := h; exact h.c4
theorem nxt_no (h : m.pc = 0) : nxt M m = .nilFunc := by simp [nxt, h]
theorem nxt_at (h : m.pc ≠ 0) : nxt M m = fnv (nfn m) M := by simp [nxt, h]
theorem nfn_is (m : Mc) (P : Nat → Prop) (a0 : P 103) (a1 : P 117) (a2 : P 136) (a3 : P 155) (a4 : P 137) (a5 : P 156) (a6 : P 171) (a7 : P 185) (a8 : P 195) (a9 : P 204) (b0 : P 184) (b1 : P 205) (b2 : P 210) (b3 : P 212) (b4 : P 214) : P (nfn m) := by
  unfold nfn
  repeat' split
  all_goals assumption
theorem enter_nfn (m : Mc) (a : Array Value) (w : World) : (callFunc (nfn m) a).run Tryz.prog w = .ok (.enter (nfn m) a) w := by
  refine nfn_is m (fun f => (callFunc f a).run Tryz.prog w = .ok (.enter f a) w) ?_ ?_ ?_ ?_ ?_ ?_ ?_ ?_ ?_ ?_ ?_ ?_ ?_ ?_ ?_ <;> simp [go_sem]
set_option maxHeartbeats 1000000 in
theorem step_on (w : World) (h : Mi w0 w M S D m L c) (wf : Wf m) (h0 : 0 ≤ c) (h1 : c ≤ 1000000000) (hp : m.pc ≠ 0) :
    Calls Tryz.prog 93 #[ptr M, ptr S] w fun a w' => a = .returned (.bool (decide ((stp L m).2.pc = 0))) ∧ Mi w0 w' M S D (stp L m).2 (stp L m).1 (c + 1) := by
  have c4 := h.nx
  rw [nxt_at hp] at c4
  have HN := Lib.hid (next_any h hp wf h0 h1)
  have hen := fun (a : Array Value) (w : World) => enter_nfn m a w
  generalize nfn m = f at c4 HN hen
  generalize stp L m = z at HN ⊢
  obtain ⟨L', m'⟩ := z
  have HP := Lib.hid hp; have WF := Lib.hid wf
  clear h hp wf
  by_cases hp' : m'.pc = 0
  · have e1 : decide (m'.pc = 0) = true := by simpa using hp'
    rw [e1]
    have HP' := Lib.hid hp'; clear hp' e1
    go_enter Tryz.func93, Tryz.ntmps93
    go_wp2_with (first
      | ((with_reducible refine HN.out.mono ?_); rintro r w1 ⟨rfl, hk⟩; have HK := Lib.hid hk; have d4 := hk.nx; rw [nxt_no HP'.out] at d4; clear hk)
      | fail)
    go_ret
    exact ⟨rfl, HK.out⟩
  · have e1 : decide (m'.pc = 0) = false := by simpa using hp'
    rw [e1]
    have HP' := Lib.hid hp'; clear hp' e1
    go_enter Tryz.func93, Tryz.ntmps93
    go_wp2_with (first
      | ((with_reducible refine HN.out.mono ?_); rintro r w1 ⟨rfl, hk⟩; have HK := Lib.hid hk; have d4 := hk.nx; rw [nxt_at HP'.out] at d4; clear hk)
      | fail)
    go_ret
    exact ⟨rfl, HK.out⟩
theorem stp_no {m : Mc} (h : m.pc = 0) (L : List Int) : stp L m = (L, m) := by simp [stp, h]
set_option maxHeartbeats 1000000 in
theorem step_off (w : World) (h : Mi w0 w M S D m L c) (hp : m.pc = 0) :
    Calls Tryz.prog 93 #[ptr M, ptr S] w fun a w' => a = .returned (.bool true) ∧ w = w' := by
  have c4 := h.nx
  rw [nxt_no hp] at c4
  clear h hp
  go_enter Tryz.func93, Tryz.ntmps93
  go_wp2
  go_ret
  exact ⟨rfl, rfl⟩
theorem step_any (w : World) (h : Mi w0 w M S D m L c) (wf : Wf m) (h0 : 0 ≤ c) (h1 : c ≤ 1000000000) :
    Calls Tryz.prog 93 #[ptr M, ptr S] w fun a w' => a = .returned (.bool (decide ((stp L m).2.pc = 0))) ∧ Mi w0 w' M S D (stp L m).2 (stp L m).1 (cst m c) := by
  by_cases hp : m.pc = 0
  · rw [stp_no hp]
    refine (step_off w h hp).mono ?_
    rintro a w' ⟨rfl, rfl⟩
    exact ⟨by simp [hp], by simpa [cst, hp] using h⟩
  · refine (step_on w h wf h0 h1 hp).mono ?_
    rintro a w' ⟨rfl, hk⟩
    exact ⟨rfl, by simpa [cst, hp] using hk⟩
def MM (w : World) (M : Nat) (m : Mc) : Prop := ∃ t b v, Mem w M m.e (nxt M m) t b v (rOf m) (xOf m) ∧ (m.pc ≠ 0 → t = m.t ∧ b = m.b ∧ v = m.w)
theorem MM.lt {w : World} (h : MM w M m) : M < w.heap.size := by obtain ⟨t, b, v, h, _⟩ := h; exact (Array.getElem?_eq_some_iff.1 h).1
theorem MM.below {w w' : World} (h : MM w M m) (hb : Below w.heap.size w w') : MM w' M m := by
  have hl := h.lt
  obtain ⟨t, b, v, h, k⟩ := h
  exact ⟨t, b, v, (hb.block M hl).trans h, k⟩
theorem MM.mi {w : World} (h : MM w M m) (hs : St w S D L c) (n1 : M ≠ S) (n2 : M ≠ D) : Mi w w M S D m L c := by
  obtain ⟨t, b, v, h, k⟩ := h
  exact ⟨t, b, v, ⟨h, hs, n1, n2, .refl _ _ _ _⟩, k⟩
theorem Mi.mm {w : World} (h : Mi w0 w M S D m L c) : MM w M m := by
  obtain ⟨t, b, v, h, k⟩ := h
  exact ⟨t, b, v, h.mem, k⟩
theorem Mi.st {w : World} (h : Mi w0 w M S D m L c) : St w S D L c := by obtain ⟨t, b, v, h, k⟩ := h; exact h.st
theorem Mi.u {w : World} (h : Mi w0 w M S D m L c) : U3 M S D w0 w := by obtain ⟨t, b, v, h, k⟩ := h; exact h.u
set_option maxHeartbeats 1000000 in
theorem res_any (w : World) (h : MM w M m) :
    Calls Tryz.prog 118 #[ptr M] w fun a w' => a = .returned (.tuple #[.int .i64 (rOf m), .int .u64 (xOf m)]) ∧ Below w.heap.size w w' := by
  obtain ⟨t, b, v, h, _⟩ := h
  have c8 : w.cell? ⟨M, 8, none⟩ = some (.int .i64 (rOf m)) := by unfold Mem at h; simp [World.cell?, h]
  have c9 : w.cell? ⟨M, 9, none⟩ = some (.int .u64 (xOf m)) := by unfold Mem at h; simp [World.cell?, h]
  clear h
  go_enter Tryz.func118, Tryz.ntmps118
  go_wp2
  go_quiet (fail)
  go_wp2
  go_ret2
  exact ⟨rfl, below_drewN (Below.refl _ _) _⟩
theorem ite_ind {α : Type} {P : α → Prop} {q : Prop} [Decidable q] {a b : α} (ha : P a) (hb : P b) : P (if q then a else b) := by split <;> assumption
end Go.Proofs.YthoiaffeenhfgaaGreat.Dg

namespace Go.Proofs.YthoiaffeenhfgaaGreat.Dg
set_option linter.unusedVariables false
set_option maxRecDepth 100000
set_option linter.unusedSimpArgs false
def runs : Nat → List Int → Mc → List Int × Mc
  | 0, L, m => (L, m)
  | k + 1, L, m => runs k (stp L m).1 (stp L m).2
end Go.Proofs.YthoiaffeenhfgaaGreat.Dg

namespace Go.Proofs.YthoiaffeenhfgaaGreat.Dg
open Go.RowKit
set_option linter.unusedVariables false
set_option maxRecDepth 100000
set_option linter.unusedSimpArgs false
variable {w0 : World} {M S D : Nat} {m : Mc} {L : List Int} {c : Int}
abbrev enV (e : En) : Value := .agg #[.int .i64 e.top, .int .i64 e.bot, .int .i64 e.ent, .int .i64 e.room]
def NewM (w : World) (m : Mc) (a : Ending) (w' : World) : Prop := ∃ M, a = .returned (ptr M) ∧ w.heap.size ≤ M ∧ MM w' M m ∧ Below w.heap.size w w'
theorem new_m {e : En} {v : Int} {m : Mc} {g : Nat} (hm : m.e = e ∧ nfn m = g ∧ m.pc = 1 ∧ m.t = 0 ∧ m.b = 0 ∧ m.w = v) (w : World) (o : Obj) (R : Int) (hR : R = roomOf e) :
    NewM w m (.returned (ptr (w.heap.size + 1))) ((w.alloc o).alloc (.cells #[.int .i64 e.top, .int .i64 e.bot, .int .i64 e.ent, .int .i64 R, fnv g (w.heap.size + 1), .int .u64 0, .int .u64 0, .int .u64 v, .int .i64 0, .int .u64 0] 134)) := by
  obtain ⟨rfl, rfl, hp, h1, h2, rfl⟩ := hm
  subst hR
  refine ⟨w.heap.size + 1, rfl, by omega, ⟨0, 0, m.w, ?_, fun _ => ⟨h1.symm, h2.symm, rfl⟩⟩, below_alloc0 (below_alloc0 (Below.refl _ _) _) _⟩
  have hn : nxt (w.heap.size + 1) m = fnv (nfn m) (w.heap.size + 1) := nxt_at (by omega)
  have hr : rOf m = 0 := by simp [rOf, hp]
  have hx : xOf m = 0 := by simp [xOf, hp]
  unfold Mem
  rw [hn, hr, hx]
  have key : ∀ X : Obj, ((w.heap.push o).push X)[w.heap.size + 1]? = some X := by
    intro X
    have e : w.heap.size + 1 = (w.heap.push o).size := by simp
    rw [e]; exact Array.getElem?_push_size
  exact key _
set_option maxHeartbeats 1000000 in
theorem begun_any (f g : Nat) (hf : f = 91 ∧ g = 103 ∨ f = 121 ∧ g = 137 ∨ f = 197 ∧ g = 205) (e : En) (v : Int) (m : Mc) (hm : m.e = e ∧ nfn m = g ∧ m.pc = 1 ∧ m.t = 0 ∧ m.b = 0 ∧ m.w = v) (w : World) :
    Calls Tryz.prog 90 #[enV e, .int .u64 v, .func (.func f) #[] #[]] w (NewM w m) := by
  have HM := Lib.hid hm
  clear hm
  have hmf : ∀ (fn : Fn) (first cap : Array Value) (w : World), (Instr.makeFunc fn first cap).run Tryz.prog w = .ok (.func fn first cap) w := fun _ _ _ _ => rfl
  by_cases hr : e.room < 1
  · have hmx : Lay.imax e.room 1 = 1 := by unfold Lay.imax; omega
    rcases hf with ⟨rfl, rfl⟩ | ⟨rfl, rfl⟩ | ⟨rfl, rfl⟩
    all_goals
      go_enter Tryz.func90, Tryz.ntmps90
      go_wp2
      go_ret
      exact new_m HM.out w _ 1 (by unfold roomOf; split <;> omega)
  · have hmx : Lay.imax e.room 1 = e.room := by unfold Lay.imax; omega
    rcases hf with ⟨rfl, rfl⟩ | ⟨rfl, rfl⟩ | ⟨rfl, rfl⟩
    all_goals
      go_enter Tryz.func90, Tryz.ntmps90
      go_wp2
      go_ret
      exact new_m HM.out w _ e.room (by unfold roomOf; split <;> omega)
theorem newM_step {w w1 w' : World} {m : Mc} {a : Ending} (hb : Below w.heap.size w w1) (h : NewM w1 m a w') : NewM w m a w' := by
  obtain ⟨M, rfl, hM, hm, hb'⟩ := h
  exact ⟨M, rfl, Nat.le_trans hb.size hM, hm, below_step hb hb.size hb'⟩
theorem below_al (w : World) (o : Obj) : Below w.heap.size w (w.alloc o) := below_alloc0 (Below.refl _ _) o
set_option maxHeartbeats 1000000 in
theorem push_any (e : En) (v : Int) (w : World) : Calls Tryz.prog 73 #[enV e, .int .u64 v] w (NewM w (mPush e v)) := by
  go_enter Tryz.func73, Tryz.ntmps73
  go_wp2_with (first
    | (go_at_call 90; (with_reducible refine (begun_any 91 103 (.inl ⟨rfl, rfl⟩) e v (mPush e v) ⟨rfl, rfl, rfl, rfl, rfl, rfl⟩ _).mono ?_); intro a w1 hk; have HK := Lib.hid (newM_step (below_al w _) hk); obtain ⟨M, rfl, _, _, _⟩ := hk)
    | fail)
  go_ret
  exact HK.out
set_option maxHeartbeats 1000000 in
theorem pop_any (e : En) (w : World) : Calls Tryz.prog 108 #[enV e] w (NewM w (mPop e)) := by
  go_enter Tryz.func108, Tryz.ntmps108
  go_wp2_with (first
    | (go_at_call 90; (with_reducible refine (begun_any 121 137 (.inr (.inl ⟨rfl, rfl⟩)) e 0 (mPop e) ⟨rfl, rfl, rfl, rfl, rfl, rfl⟩ _).mono ?_); intro a w1 hk; have HK := Lib.hid (newM_step (below_al w _) hk); obtain ⟨M, rfl, _, _, _⟩ := hk)
    | fail)
  go_ret
  exact HK.out
set_option maxHeartbeats 1000000 in
theorem steal_any (e : En) (w : World) : Calls Tryz.prog 188 #[enV e] w (NewM w (mSteal e)) := by
  go_enter Tryz.func188, Tryz.ntmps188
  go_wp2_with (first
    | (go_at_call 90; (with_reducible refine (begun_any 197 205 (.inr (.inr ⟨rfl, rfl⟩)) e 0 (mSteal e) ⟨rfl, rfl, rfl, rfl, rfl, rfl⟩ _).mono ?_); intro a w1 hk; have HK := Lib.hid (newM_step (below_al w _) hk); obtain ⟨M, rfl, _, _, _⟩ := hk)
    | fail)
  go_ret
  exact HK.out
attribute [local irreducible] runs
end Go.Proofs.YthoiaffeenhfgaaGreat.Dg

namespace Go.Proofs.YthoiaffeenhfgaaGreat
set_option linter.unusedVariables false
set_option linter.unusedSimpArgs false
structure Am where
  pc : Nat
  task : Int
  d : Dg.Mc
  p : Pm
  sp : Bool
def astp (g : Pg) (L : List Int) (m : Am) : List Int × Am :=
  if m.pc = 1 then
    ((Dg.stp L m.d).1, if (Dg.stp L m.d).2.pc = 0 then (if (Dg.stp L m.d).2.out = 2 then { m with d := (Dg.stp L m.d).2, pc := 2, sp := true, p := pPut g [m.task] } else { m with d := (Dg.stp L m.d).2, pc := 0 })
      else { m with d := (Dg.stp L m.d).2 })
  else if m.pc = 2 then
    ((pstp g L m.p).1, if (pstp g L m.p).2.pc = 0 then { m with p := (pstp g L m.p).2, pc := 0 } else { m with p := (pstp g L m.p).2 })
  else (L, m)
def pnone : Pm := ⟨0, 0, [], 0, 0, mnone⟩
def aNew (e : Dg.En) (t : Int) : Am := ⟨1, t, Dg.mPush e t, pnone, false⟩
inductive At (n r : Nat) (g : Pg) (e : Dg.En) (L : List Int) (Ts : Int) (Qs : List Int) (Tp : Int) (Qp : List Int) (β : Int) (Q : List Int) : Am → List Int → List Int → Prop
  | idle (t : Int) (d : Dg.Mc) (p : Pm) (s : Bool) : At n r g e L Ts Qs Tp Qp β Q ⟨0, t, d, p, s⟩ [] []
  | dq (t : Int) (d : Dg.Mc) (p : Pm) (s : Bool) (hP : Dg.Ph r e L 0 β Q t β β d) (hk : d.kind = 1) (hp : d.pc ≠ 0) : At n r g e L Ts Qs Tp Qp β Q ⟨1, t, d, p, s⟩ [] [t]
  | pk (t : Int) (d : Dg.Mc) (p : Pm) (s : Bool) (h : List Int) (hT : Th n g L Ts Qs Tp Qp p h [t]) (hk : p.kind = 1) (hp : p.pc ≠ 0) : At n r g e L Ts Qs Tp Qp β Q ⟨2, t, d, p, s⟩ h [t]
section
variable {n r : Nat} {g : Pg} {e f : Dg.En} {L : List Int} {i : Int} {A : List Int} {a b : Am} {pa pb la lb ra rb : Int}
end
end Go.Proofs.YthoiaffeenhfgaaGreat

namespace Go.Proofs.YthoiaffeenhfgaaGreat
set_option linter.unusedVariables false
set_option linter.unusedSimpArgs false
def aruns (g : Pg) : Nat → List Int → Am → List Int × Am
  | 0, L, m => (L, m)
  | k + 1, L, m => aruns g k (astp g L m).1 (astp g L m).2
section
variable {n r : Nat} {g : Pg} {e : Dg.En} {L : List Int} {i x : Int} {l Q : List Int}
end
end Go.Proofs.YthoiaffeenhfgaaGreat

namespace Go.Proofs.YthoiaffeenhfgaaGreat
set_option linter.unusedVariables false
set_option linter.unusedSimpArgs false
structure Bg where
  p : Int
  t : Int
  n : Int
def bg0 : Bg := ⟨0, 0, 0⟩
structure Km where
  pc : Nat
  i : Int
  draw : Int
  bag : Bg
  d : Dg.Mc
  p : Pm
  task : Int
  found : Bool
def kback (all v : Int) : Int := if v + 1 = all then 0 else v + 1
def kvic (all i draw : Int) : Int := if all < 2 then -1 else if draw % all = i then kback all (draw % all) else draw % all
def kask (g : Pg) (m : Km) : Km := { m with p := pTake g, pc := 4 }
def kbag (n : Nat) (g : Pg) (m : Km) : Km :=
  if m.bag.p = 0 ∧ m.bag.t = 0 ∧ m.bag.n = 0 then kask g m
  else if m.bag.p ≠ 0 ∧ m.bag.t < m.bag.n then { m with pc := 2 }
  else if m.bag.p < 1 ∨ (n : Int) < m.bag.p then kask g { m with bag := bg0 }
  else { m with bag := bg0, p := pBack n g m.bag.p, pc := 3 }
def kfin (m : Km) (x : Int) : Km := { m with pc := 0, task := x, found := true }
def kvict (ev : Int → Dg.En) (all : Int) (m : Km) : Km :=
  if kvic all m.i m.draw < 0 then { m with pc := 0 } else { m with pc := 6, d := Dg.mSteal (ev (kvic all m.i m.draw)) }
def k4 (x : Int) : Int := if x < 4 then x else 4
def kown (n : Nat) (g : Pg) (m : Km) (d : Dg.Mc) : Km :=
  if d.pc = 0 then (if d.out = 1 then kfin { m with d := d } d.w else if m.pc = 1 then kbag n g { m with d := d } else { m with d := d, pc := 0 })
  else { m with d := d }
def kpak (g : Pg) (ev : Int → Dg.En) (all : Int) (m : Km) (p : Pm) : Km :=
  if p.pc = 0 then (if m.pc = 3 then kask g { m with p := p } else if p.p = 0 then kvict ev all { m with p := p } else { m with p := p, pc := 5 })
  else { m with p := p }
def kstp (n : Nat) (g : Pg) (ev : Int → Dg.En) (all : Int) (L : List Int) (m : Km) : List Int × Km :=
  if m.pc = 1 ∨ m.pc = 6 then ((Dg.stp L m.d).1, kown n g m (Dg.stp L m.d).2)
  else if m.pc = 2 then (L, kfin { m with bag := ⟨m.bag.p, m.bag.t + 1, m.bag.n⟩ } (ldq L (g.tk m.bag.p m.bag.t)))
  else if m.pc = 3 ∨ m.pc = 4 then ((pstp g L m.p).1, kpak g ev all m (pstp g L m.p).2)
  else if m.pc = 5 then (L, kbag n g { m with bag := ⟨m.p.p, 0, k4 (ldq L (g.mn m.p.p))⟩ })
  else (L, m)
def kbd (x : Int) : Int := if x < 0 then 0 else if x < 4 then x else 4
def kNew (e : Dg.En) (i : Int) (b : Bg) (draw : Int) : Km := ⟨1, i, draw, ⟨b.p, kbd b.t, kbd b.n⟩, Dg.mPop e, pnone, 0, false⟩
def kNone (i : Int) (b : Bg) (draw : Int) : Km := ⟨0, i, draw, b, Dg.mPop ⟨0, 0, 0, 0⟩, pnone, 0, false⟩
section
variable {n : Nat} {g : Pg} {ev : Int → Dg.En} {all : Int}
theorem kstp_done {m : Km} (h : m.pc = 0) (L : List Int) : kstp n g ev all L m = (L, m) := by simp [kstp, h]
end
section
variable {n : Nat} {g : Pg}
end
section
variable {n r : Nat} {g : Pg} {e : Dg.En} {L : List Int} {i x : Int} {Qp out Q : List Int} {l : List (List Int)} {ev : Int → Dg.En} {all : Int} {me draw : Int}
end
end Go.Proofs.YthoiaffeenhfgaaGreat
