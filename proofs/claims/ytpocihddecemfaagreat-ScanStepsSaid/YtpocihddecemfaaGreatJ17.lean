/-  -/
import Derived.Test.YtpocihddecemfaaGreatJ9
namespace Go.Proofs.YtpocihddecemfaaGreat.Dg
open Go.RowKit
set_option linter.unusedVariables false
set_option maxRecDepth 100000
variable {w0 : World} {M S D : Nat} {e : En} {nx : Value} {t b v r x : Int} {L : List Int} {c : Int}
structure EnOk (e : En) : Prop where
  lo : -1000000000 ≤ e.ent
  hi : e.ent ≤ 1000000000
  room : e.room ≤ 1000000000
theorem EnOk.rm (h : EnOk e) : 1 ≤ roomOf e ∧ roomOf e ≤ 1000000000 := by
  have := h.room
  unfold roomOf; split <;> omega
set_option maxHeartbeats 1000000 in
theorem place_any (n : Int) (h : EnOk e) (hn : 0 ≤ n) (w : World) :
    Calls Tryz.prog 163 #[.agg #[.int .i64 e.top, .int .i64 e.bot, .int .i64 e.ent, .int .i64 (roomOf e)], .int .u64 n] w fun a w' => a = .returned (.int .i64 (entOf e n)) ∧ Below w.heap.size w w' := by
  obtain ⟨r0, r1⟩ := h.rm
  have h0 := h.lo
  have h1 := h.hi
  obtain ⟨R, hR⟩ : ∃ R, R = roomOf e := ⟨_, rfl⟩
  obtain ⟨z, hz⟩ : ∃ z, z = entOf e n := ⟨_, rfl⟩
  have hz2 := hz
  unfold entOf at hz2
  rw [← hz]
  rw [← hR] at hz2 r0 r1 ⊢
  have m0 : 0 ≤ n % R := Int.emod_nonneg _ (by omega)
  have m1 : n % R < R := Int.emod_lt_of_pos _ (by omega)
  have e1 : IntKind.u64.wrap R = R := by rw [IntKind.wrap_u64]; omega
  have e2 : n.tmod R = n % R := Int.tmod_eq_emod_of_nonneg hn
  obtain ⟨y, hy⟩ : ∃ y, y = n % R := ⟨_, rfl⟩
  rw [← hy] at e2 hz2 m0 m1
  have e3 : IntKind.i64.wrap y = y := by rw [IntKind.wrap_i64]; omega
  have e5 : IntKind.u64.wrap y = y := by rw [IntKind.wrap_u64]; omega
  have e4 : IntKind.i64.wrap (e.ent + y) = z := by rw [IntKind.wrap_i64]; omega
  have hne : (R == 0) = false := by rw [beq_eq_false_iff_ne]; omega
  have hne2 : ¬ R = 0 := by omega
  clear hz hz2 hR hy
  go_enter Tryz.func163, Tryz.ntmps163
  go_wp2
  go_quiet (fail)
  go_wp2
  go_ret
  exact ⟨rfl, below_drewN ((Below.refl _ _).alloc (Nat.le_refl _) _) _⟩
theorem Mst.cs {w : World} (h : Mst w0 w M S D e nx t b v r x L c) : w.cell? ⟨M, 0, none⟩ = some (.int .i64 e.top) ∧ w.cell? ⟨M, 1, none⟩ = some (.int .i64 e.bot) ∧ w.cell? ⟨M, 2, none⟩ = some (.int .i64 e.ent) ∧ w.cell? ⟨M, 3, none⟩ = some (.int .i64 (roomOf e)) ∧ w.cell? ⟨M, 5, none⟩ = some (.int .u64 t) ∧ w.cell? ⟨M, 6, none⟩ = some (.int .u64 b) :=
  ⟨h.c0, h.c1, h.c2, h.c3, h.c5, h.c6⟩
set_option maxHeartbeats 1000000 in
theorem seeRoom_any (w : World) (h : Mst w0 w M S D e nx t b v r x L c) (h0 : 0 ≤ c) (h1 : c ≤ 1000000000) :
    Calls Tryz.prog 149 #[ptr M, ptr S] w fun a w' => a = .returned (.tuple #[]) ∧
      Mst w0 w' M S D e (if roomOf e ≤ aheadOf b (ldv L e.top) then .nilFunc else fnv 159 M) (ldv L e.top) b v (if roomOf e ≤ aheadOf b (ldv L e.top) then 2 else r) (if roomOf e ≤ aheadOf b (ldv L e.top) then 0 else x) L (c + 1) := by
  have hmf : ∀ (fn : Fn) (first cap : Array Value) (w : World), (Instr.makeFunc fn first cap).run Tryz.prog w = .ok (.func fn first cap) w := fun _ _ _ _ => rfl
  have c1 := h.c0
  have H := Lib.hid h; clear h
  obtain ⟨T, hT⟩ : ∃ T, T = ldv L e.top := ⟨_, rfl⟩
  obtain ⟨A, hA⟩ : ∃ A, A = aheadOf b T := ⟨_, rfl⟩
  rw [← hT, ← hA]
  have HT := Lib.hid hT; have HA := Lib.hid hA; clear hT hA
  have HR : ∀ B : Bool, decide (roomOf e ≤ A) = B → Calls Tryz.prog 149 #[ptr M, ptr S] w fun a w' => a = .returned (.tuple #[]) ∧
      Mst w0 w' M S D e (if B = true then .nilFunc else fnv 159 M) T b v (if B = true then 2 else r) (if B = true then 0 else x) L (c + 1) := by
    intro B hB
    go_enter Tryz.func149, Tryz.ntmps149
    go_wp2_with (first
      | (go_at_call 27; (with_reducible refine (load_any _ _ H.out.st h0 h1).mono ?_); rintro r w1 ⟨rfl, hk⟩; rw [← HT.out]; have HK := Lib.hid (H.out.left hk); have c5 := HK.out.c5; have f5 := HK.out.f 5; have HL := Lib.hid (HK.out.p5 T); clear hk)
      | fail)
    obtain ⟨W, hW, hm⟩ : ∃ W, W = _ ∧ Mst w0 W M S D e nx T b v r x L (c + 1) := ⟨_, rfl, HL.out⟩
    rw [← hW]
    obtain ⟨q0, q1, q2, q3, q5, q6⟩ := hm.cs
    have HM := Lib.hid hm; have HMD := Lib.hid hm.drew
    clear hm HL HK c5 f5 hW
    go_region_held3 (fun w' => w'.cell? ⟨M, 0, none⟩ = some (.int .i64 e.top) ∧ w'.cell? ⟨M, 1, none⟩ = some (.int .i64 e.bot) ∧ w'.cell? ⟨M, 2, none⟩ = some (.int .i64 e.ent) ∧ w'.cell? ⟨M, 3, none⟩ = some (.int .i64 (roomOf e)) ∧ w'.cell? ⟨M, 5, none⟩ = some (.int .u64 T) ∧ w'.cell? ⟨M, 6, none⟩ = some (.int .u64 b))
      (first | exact HN.out.cs | exact HMD.out.cs | go_keep)
      (first
        | (go_at_call 157; (with_reducible refine (ahead_walk _ _ _).mono ?_); rintro r w3 ⟨rfl, hb⟩; rw [← HA.out]; have HN := Lib.hid (HMD.out.step hb); clear hb; have c4 := HN.out.c4; have f4 := HN.out.f 4; have HE := Lib.hid (HN.out.p4 (fnv 159 M)))
        | fail)
    clear q0 q1 q2 q3 q5 q6 HM HMD
    cases B
    · go_wp2
      go_returns
      exact ⟨rfl, HE.out⟩
    · go_wp2_with (first
        | (go_at_call 158; (with_reducible refine (finish_any 2 0 _ HN.out).mono ?_); rintro r w4 ⟨rfl, hz⟩)
        | fail)
      go_returns
      exact ⟨rfl, hz⟩
  by_cases hc : roomOf e ≤ A
  · simpa [hc] using HR true (by simpa using hc)
  · simpa [hc] using HR false (by simpa using hc)
end Go.Proofs.YtpocihddecemfaaGreat.Dg

namespace Go.Proofs.YtpocihddecemfaaGreat.Dg
open Go.RowKit
set_option linter.unusedVariables false
set_option maxRecDepth 100000
variable {w0 : World} {M S D : Nat} {e : En} {nx : Value} {t b v r x : Int} {L : List Int} {c : Int}
set_option maxHeartbeats 1000000 in
theorem showEntry_any (w : World) (h : Mst w0 w M S D e nx t b v r x L c) (h0 : 0 ≤ c) (h1 : c ≤ 1000000000) :
    Calls Tryz.prog 164 #[ptr M, ptr S] w fun a w' => a = .returned (.tuple #[]) ∧ Mst w0 w' M S D e .nilFunc t b v 1 0 (ptv L e.bot (IntKind.u64.wrap (b + 1))) (c + 1) := by
  have hmf : ∀ (fn : Fn) (first cap : Array Value) (w : World), (Instr.makeFunc fn first cap).run Tryz.prog w = .ok (.func fn first cap) w := fun _ _ _ _ => rfl
  obtain ⟨q0, q1, q2, q3, q5, q6⟩ := h.cs
  have q7 := h.c7
  obtain ⟨y, hy⟩ : ∃ y, y = (IntKind.u64.wrap (b + 1)) := ⟨_, rfl⟩
  rw [← hy]
  have hy' := hy.symm; clear hy
  have HD := Lib.hid h.drew; clear h
  go_enter Tryz.func164, Tryz.ntmps164
  go_wp2
  go_still_tail 11, (by kernel_rfl)
  change wpList _ _ _ _ _ w.drew
  go_wp2_with (first
    | (go_at_call 21; (with_reducible refine (put_any _ _ _ HD.out.st h0 h1).mono ?_); rintro r w1 ⟨rfl, hk⟩; have HK := Lib.hid (HD.out.left hk); clear hk; have c4 := HK.out.c4; have f4 := HK.out.f 4; have c7 := HK.out.c7)
    | (go_at_call 158; (with_reducible refine (finish_any 1 0 _ HK.out).mono ?_); rintro r w4 ⟨rfl, hz⟩)
    | fail)
  go_returns
  exact ⟨rfl, hz⟩
end Go.Proofs.YtpocihddecemfaaGreat.Dg

namespace Go.Proofs.YtpocihddecemfaaGreat.Dg
open Go.RowKit
set_option linter.unusedVariables false
set_option maxRecDepth 100000
variable {w0 : World} {M S D : Nat} {e : En} {nx : Value} {t b v r x : Int} {L : List Int} {c : Int}
theorem Mst.cs7 {w : World} (h : Mst w0 w M S D e nx t b v r x L c) : w.cell? ⟨M, 0, none⟩ = some (.int .i64 e.top) ∧ w.cell? ⟨M, 1, none⟩ = some (.int .i64 e.bot) ∧ w.cell? ⟨M, 2, none⟩ = some (.int .i64 e.ent) ∧ w.cell? ⟨M, 3, none⟩ = some (.int .i64 (roomOf e)) ∧ w.cell? ⟨M, 5, none⟩ = some (.int .u64 t) ∧ w.cell? ⟨M, 6, none⟩ = some (.int .u64 b) ∧ w.cell? ⟨M, 7, none⟩ = some (.int .u64 v) :=
  ⟨h.c0, h.c1, h.c2, h.c3, h.c5, h.c6, h.c7⟩
set_option maxHeartbeats 1000000 in
theorem putEntry_any (w : World) (h : Mst w0 w M S D e nx t b v r x L c) (h0 : 0 ≤ c) (h1 : c ≤ 1000000000) (ok : EnOk e) (hb0 : 0 ≤ b) :
    Calls Tryz.prog 159 #[ptr M, ptr S] w fun a w' => a = .returned (.tuple #[]) ∧ Mst w0 w' M S D e (fnv 164 M) t b v r x (ptv L (entOf e b) v) (c + 1) := by
  have hmf : ∀ (fn : Fn) (first cap : Array Value) (w : World), (Instr.makeFunc fn first cap).run Tryz.prog w = .ok (.func fn first cap) w := fun _ _ _ _ => rfl
  obtain ⟨q0, q1, q2, q3, q5, q6, q7⟩ := h.cs7
  have HMD := Lib.hid h.drew; clear h
  go_enter Tryz.func159, Tryz.ntmps159
  go_wp2
  go_region_held3 (fun w' => w'.cell? ⟨M, 0, none⟩ = some (.int .i64 e.top) ∧ w'.cell? ⟨M, 1, none⟩ = some (.int .i64 e.bot) ∧ w'.cell? ⟨M, 2, none⟩ = some (.int .i64 e.ent) ∧ w'.cell? ⟨M, 3, none⟩ = some (.int .i64 (roomOf e)) ∧ w'.cell? ⟨M, 5, none⟩ = some (.int .u64 t) ∧ w'.cell? ⟨M, 6, none⟩ = some (.int .u64 b) ∧ w'.cell? ⟨M, 7, none⟩ = some (.int .u64 v))
    (first | exact HQ.out.cs7 | exact HN.out.cs7 | exact HMD.out.cs7 | go_keep)
    (first
      | (go_at_call 163; (with_reducible refine (place_any b ok hb0 _).mono ?_); rintro r w3 ⟨rfl, hb⟩; have HN := Lib.hid (HMD.out.step hb); clear hb)
      | (go_at_call 21; (with_reducible refine (put_any _ _ _ HN.out.st h0 h1).mono ?_); rintro r w4 ⟨rfl, hk⟩; have HQ := Lib.hid (HN.out.left hk); clear hk; have c4 := HQ.out.c4; have f4 := HQ.out.f 4; have HE := Lib.hid (HQ.out.p4 (fnv 164 M)))
      | fail)
  go_wp2
  go_returns
  exact ⟨rfl, HE.out⟩
end Go.Proofs.YtpocihddecemfaaGreat.Dg

namespace Go.Proofs.YtpocihddecemfaaGreat.Dg
open Go.RowKit
set_option linter.unusedVariables false
set_option maxRecDepth 100000
set_option linter.unusedSimpArgs false
theorem ldv_eq (L : List Int) (a : Int) : ldv L a = ldq L a := by
  unfold ldv ldq inB; simp
theorem ptv_eq (L : List Int) (a v : Int) : ptv L a v = ptq L a v := by
  unfold ptv ptq inB; simp
theorem u64w_eq (a : Int) : IntKind.u64.wrap a = u64w a := IntKind.wrap_u64 a
theorem ahead_eq (a b : Int) : aheadOf a b = ahead a b := rfl
def nfn (m : Mc) : Nat :=
  if m.pc = 1 then 143 else if m.pc = 2 then 149 else if m.pc = 3 then 159 else 164
def nxt (M : Nat) (m : Mc) : Value := if m.pc = 0 then .nilFunc else fnv (nfn m) M
def rOf (m : Mc) : Int := if m.pc = 0 then m.out else 0
def xOf (m : Mc) : Int := if m.pc = 0 then m.w else 0
def Mi (w0 w : World) (M S D : Nat) (m : Mc) (L : List Int) (c : Int) : Prop :=
  ∃ t b v, Mst w0 w M S D m.e (nxt M m) t b v (rOf m) (xOf m) L c ∧ (m.pc ≠ 0 → t = m.t ∧ b = m.b ∧ v = m.w)
structure Wf (m : Mc) : Prop where
  kd : m.kind = 1
  ok : EnOk m.e
  b : 0 ≤ m.b
  t : 0 ≤ m.t
section
variable {w0 w w' : World} {M S D : Nat} {m : Mc} {L : List Int} {c : Int}
theorem Mi.of {m' : Mc} {t b v r x : Int} {nx : Value} (h : Mst w0 w M S D m'.e nx t b v r x L c) (h1 : nx = nxt M m') (h2 : r = rOf m') (h3 : x = xOf m') (h4 : m'.pc ≠ 0 → t = m'.t ∧ b = m'.b ∧ v = m'.w) : Mi w0 w M S D m' L c := by
  subst h1 h2 h3; exact ⟨t, b, v, h, h4⟩
theorem Mi.at (h : Mi w0 w M S D m L c) (hp : m.pc ≠ 0) : Mst w0 w M S D m.e (fnv (nfn m) M) m.t m.b m.w 0 0 L c := by
  obtain ⟨t, b, v, h, h2⟩ := h
  obtain ⟨rfl, rfl, rfl⟩ := h2 hp
  simpa [nxt, rOf, xOf, hp] using h
theorem next_push (h : Mi w0 w M S D m L c) (hp : m.pc ≠ 0) (hk : m.kind = 1) (wf : Wf m) (h0 : 0 ≤ c) (h1 : c ≤ 1000000000) :
    Calls Tryz.prog (nfn m) #[ptr M, ptr S] w fun a w' => a = .returned (.tuple #[]) ∧ Mi w0 w' M S D (stp L m).2 (stp L m).1 (c + 1) := by
  have h' := h.at hp
  have es : stp L m = pushS L m := by simp [stp, hp, hk]
  rw [es]
  unfold pushS
  by_cases p1 : m.pc = 1
  · rw [if_pos p1, show nfn m = 143 by simp [nfn, hk, p1]]
    refine (seeBottom_any _ h' h0 h1).mono ?_
    rintro a w1 ⟨rfl, k⟩
    rw [ldv_eq] at k
    exact ⟨rfl, Mi.of (m' := { m with pc := 2, b := ldq L m.e.bot }) k (by simp [nxt, nfn, hk]) (by simp [rOf]) (by simp [xOf]) (fun _ => ⟨rfl, rfl, rfl⟩)⟩
  rw [if_neg p1]
  by_cases p2 : m.pc = 2
  · rw [if_pos p2, show nfn m = 149 by simp [nfn, hk, p2]]
    refine (seeRoom_any _ h' h0 h1).mono ?_
    rintro a w1 ⟨rfl, k⟩
    rw [ldv_eq, ahead_eq] at k
    refine ⟨rfl, ?_⟩
    by_cases hc : roomOf m.e ≤ ahead m.b (ldq L m.e.top)
    · rw [if_pos hc]
      simp only [if_pos hc] at k
      exact Mi.of (m' := fin m 2 0) k (by simp [nxt, fin]) (by simp [rOf, fin]) (by simp [xOf, fin]) (fun hn => absurd rfl hn)
    · rw [if_neg hc]
      simp only [if_neg hc] at k
      exact Mi.of (m' := { m with pc := 3, t := ldq L m.e.top }) k (by simp [nxt, nfn, hk]) (by simp [rOf]) (by simp [xOf]) (fun _ => ⟨rfl, rfl, rfl⟩)
  rw [if_neg p2]
  by_cases p3 : m.pc = 3
  · rw [if_pos p3, show nfn m = 159 by simp [nfn, hk, p3]]
    refine (putEntry_any _ h' h0 h1 wf.ok wf.b).mono ?_
    rintro a w1 ⟨rfl, k⟩
    rw [ptv_eq] at k
    exact ⟨rfl, Mi.of (m' := { m with pc := 4 }) k (by simp [nxt, nfn, hk]) (by simp [rOf]) (by simp [xOf]) (fun _ => ⟨rfl, rfl, rfl⟩)⟩
  rw [if_neg p3, show nfn m = 164 by simp [nfn, hk, p1, p2, p3]]
  refine (showEntry_any _ h' h0 h1).mono ?_
  rintro a w1 ⟨rfl, k⟩
  rw [ptv_eq, u64w_eq] at k
  exact ⟨rfl, Mi.of (m' := fin m 1 0) k (by simp [nxt, fin]) (by simp [rOf, fin]) (by simp [xOf, fin]) (fun hn => absurd rfl hn)⟩
theorem next_any (h : Mi w0 w M S D m L c) (hp : m.pc ≠ 0) (wf : Wf m) (h0 : 0 ≤ c) (h1 : c ≤ 1000000000) :
    Calls Tryz.prog (nfn m) #[ptr M, ptr S] w fun a w' => a = .returned (.tuple #[]) ∧ Mi w0 w' M S D (stp L m).2 (stp L m).1 (c + 1) := by
  exact next_push h hp wf.kd wf h0 h1
end
end Go.Proofs.YtpocihddecemfaaGreat.Dg

namespace Go.Proofs.YtpocihddecemfaaGreat.Dg
open Go.RowKit
set_option linter.unusedVariables false
set_option maxRecDepth 100000
set_option linter.unusedSimpArgs false
variable {w0 : World} {M S D : Nat} {m : Mc} {L : List Int} {c : Int}
theorem eqin_fn (d f M : Nat) (w : World) : (Op.equalIn (d + 1) 106 (fnv f M) .nilFunc).run Tryz.prog w = .ok false w := by
  simp [Op.equalIn, run_underlying Tryz.underlying106]
theorem eqin_nil (d : Nat) (w : World) : (Op.equalIn (d + 1) 106 .nilFunc .nilFunc).run Tryz.prog w = .ok true w := by
  simp [Op.equalIn, run_underlying Tryz.underlying106]
@[go_sem] theorem eql_fn (f M : Nat) (w : World) : (binOp .eql 106 (fnv f M) .nilFunc).run Tryz.prog w = .ok (.bool false) w := by
  have h : (Op.equal 106 (fnv f M) .nilFunc).run Tryz.prog w = .ok false w := eqin_fn 9999 f M w
  simp only [binOp]
  simp [h]
@[go_sem] theorem eql_nil (w : World) : (binOp .eql 106 .nilFunc .nilFunc).run Tryz.prog w = .ok (.bool true) w := by
  have h : (Op.equal 106 .nilFunc .nilFunc).run Tryz.prog w = .ok true w := eqin_nil 9999 w
  simp only [binOp]
  simp [h]
def cst (m : Mc) (c : Int) : Int := if m.pc = 0 then c else c + 1
theorem Mi.nx {w : World} (h : Mi w0 w M S D m L c) : w.cell? ⟨M, 4, none⟩ = some (nxt M m) := by
  obtain ⟨t, b, v, h, _⟩ := h; exact h.c4
theorem nxt_no (h : m.pc = 0) : nxt M m = .nilFunc := by simp [nxt, h]
theorem nxt_at (h : m.pc ≠ 0) : nxt M m = fnv (nfn m) M := by simp [nxt, h]
theorem nfn_is (m : Mc) (P : Nat → Prop) (a0 : P 143) (a1 : P 149) (a2 : P 159) (a3 : P 164) : P (nfn m) := by
  unfold nfn
  repeat' split
  all_goals assumption
theorem enter_nfn (m : Mc) (a : Array Value) (w : World) : (callFunc (nfn m) a).run Tryz.prog w = .ok (.enter (nfn m) a) w := by
  refine nfn_is m (fun f => (callFunc f a).run Tryz.prog w = .ok (.enter f a) w) ?_ ?_ ?_ ?_ <;> simp [go_sem]
set_option maxHeartbeats 1000000 in
theorem step_on (w : World) (h : Mi w0 w M S D m L c) (wf : Wf m) (h0 : 0 ≤ c) (h1 : c ≤ 1000000000) (hp : m.pc ≠ 0) :
    Calls Tryz.prog 138 #[ptr M, ptr S] w fun a w' => a = .returned (.bool (decide ((stp L m).2.pc = 0))) ∧ Mi w0 w' M S D (stp L m).2 (stp L m).1 (c + 1) := by
  have c4 := h.nx
  rw [nxt_at hp] at c4
  have HN := Lib.hid (next_any h hp wf h0 h1)
  have hen := fun (a : Array Value) (w : World) => enter_nfn m a w
  generalize nfn m = f at c4 HN hen
  generalize stp L m = z at HN ⊢
  obtain ⟨L', m'⟩ := z
  have HP := Lib.hid hp; have WF := Lib.hid wf
  clear h hp wf
  by_cases hp' : m'.pc = 0
  · have e1 : decide (m'.pc = 0) = true := by simpa using hp'
    rw [e1]
    have HP' := Lib.hid hp'; clear hp' e1
    go_enter Tryz.func138, Tryz.ntmps138
    go_wp2_with (first
      | ((with_reducible refine HN.out.mono ?_); rintro r w1 ⟨rfl, hk⟩; have HK := Lib.hid hk; have d4 := hk.nx; rw [nxt_no HP'.out] at d4; clear hk)
      | fail)
    go_ret
    exact ⟨rfl, HK.out⟩
  · have e1 : decide (m'.pc = 0) = false := by simpa using hp'
    rw [e1]
    have HP' := Lib.hid hp'; clear hp' e1
    go_enter Tryz.func138, Tryz.ntmps138
    go_wp2_with (first
      | ((with_reducible refine HN.out.mono ?_); rintro r w1 ⟨rfl, hk⟩; have HK := Lib.hid hk; have d4 := hk.nx; rw [nxt_at HP'.out] at d4; clear hk)
      | fail)
    go_ret
    exact ⟨rfl, HK.out⟩
theorem stp_no {m : Mc} (h : m.pc = 0) (L : List Int) : stp L m = (L, m) := by simp [stp, h]
set_option maxHeartbeats 1000000 in
theorem step_off (w : World) (h : Mi w0 w M S D m L c) (hp : m.pc = 0) :
    Calls Tryz.prog 138 #[ptr M, ptr S] w fun a w' => a = .returned (.bool true) ∧ w = w' := by
  have c4 := h.nx
  rw [nxt_no hp] at c4
  clear h hp
  go_enter Tryz.func138, Tryz.ntmps138
  go_wp2
  go_ret
  exact ⟨rfl, rfl⟩
theorem step_any (w : World) (h : Mi w0 w M S D m L c) (wf : Wf m) (h0 : 0 ≤ c) (h1 : c ≤ 1000000000) :
    Calls Tryz.prog 138 #[ptr M, ptr S] w fun a w' => a = .returned (.bool (decide ((stp L m).2.pc = 0))) ∧ Mi w0 w' M S D (stp L m).2 (stp L m).1 (cst m c) := by
  by_cases hp : m.pc = 0
  · rw [stp_no hp]
    refine (step_off w h hp).mono ?_
    rintro a w' ⟨rfl, rfl⟩
    exact ⟨by simp [hp], by simpa [cst, hp] using h⟩
  · refine (step_on w h wf h0 h1 hp).mono ?_
    rintro a w' ⟨rfl, hk⟩
    exact ⟨rfl, by simpa [cst, hp] using hk⟩
def MM (w : World) (M : Nat) (m : Mc) : Prop := ∃ t b v, Mem w M m.e (nxt M m) t b v (rOf m) (xOf m) ∧ (m.pc ≠ 0 → t = m.t ∧ b = m.b ∧ v = m.w)
theorem MM.lt {w : World} (h : MM w M m) : M < w.heap.size := by obtain ⟨t, b, v, h, _⟩ := h; exact (Array.getElem?_eq_some_iff.1 h).1
theorem MM.below {w w' : World} (h : MM w M m) (hb : Below w.heap.size w w') : MM w' M m := by
  have hl := h.lt
  obtain ⟨t, b, v, h, k⟩ := h
  exact ⟨t, b, v, (hb.block M hl).trans h, k⟩
theorem MM.mi {w : World} (h : MM w M m) (hs : St w S D L c) (n1 : M ≠ S) (n2 : M ≠ D) : Mi w w M S D m L c := by
  obtain ⟨t, b, v, h, k⟩ := h
  exact ⟨t, b, v, ⟨h, hs, n1, n2, .refl _ _ _ _⟩, k⟩
theorem Mi.mm {w : World} (h : Mi w0 w M S D m L c) : MM w M m := by
  obtain ⟨t, b, v, h, k⟩ := h
  exact ⟨t, b, v, h.mem, k⟩
theorem Mi.st {w : World} (h : Mi w0 w M S D m L c) : St w S D L c := by obtain ⟨t, b, v, h, k⟩ := h; exact h.st
theorem Mi.u {w : World} (h : Mi w0 w M S D m L c) : U3 M S D w0 w := by obtain ⟨t, b, v, h, k⟩ := h; exact h.u
set_option maxHeartbeats 1000000 in
theorem res_any (w : World) (h : MM w M m) :
    Calls Tryz.prog 150 #[ptr M] w fun a w' => a = .returned (.tuple #[.int .i64 (rOf m), .int .u64 (xOf m)]) ∧ Below w.heap.size w w' := by
  obtain ⟨t, b, v, h, _⟩ := h
  have c8 : w.cell? ⟨M, 8, none⟩ = some (.int .i64 (rOf m)) := by unfold Mem at h; simp [World.cell?, h]
  have c9 : w.cell? ⟨M, 9, none⟩ = some (.int .u64 (xOf m)) := by unfold Mem at h; simp [World.cell?, h]
  clear h
  go_enter Tryz.func150, Tryz.ntmps150
  go_wp2
  go_quiet (fail)
  go_wp2
  go_ret2
  exact ⟨rfl, below_drewN (Below.refl _ _) _⟩
end Go.Proofs.YtpocihddecemfaaGreat.Dg
