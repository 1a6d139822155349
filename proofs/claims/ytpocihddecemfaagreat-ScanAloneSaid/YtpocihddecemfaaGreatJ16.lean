/- The steps of a deque's machine, walked: an entry's place, and the steps that compare the ends. The steps of a deque's machine, walked: those that compare the ends. The steps of a deque's machine, walked: those that put an end. The steps of a deque's machine, walked: those that turn the top. The steps of a deque's machine, walked: those at an entry. The steps of a deque's machine, walked: those that see an entry. A deque's machine in memory stands for one over words; each of its steps is that one's. A machine's step, and what came of it, walked. A deque's machines that run alone, wherever its ends and entries stand. A machine that is begun, and one that runs to its end, walked. -/
import Derived.Test.YtpocihddecemfaaGreatJ11
import Derived.Test.YtpocihddecemfaaGreatDgPure
namespace Go.Proofs.YtpocihddecemfaaGreat.Dg
open Go.RowKit
set_option linter.unusedVariables false
set_option maxRecDepth 100000
variable {w0 : World} {M S D : Nat} {e : En} {nx : Value} {t b v r x : Int} {L : List Int} {c : Int}

/-- A deque's entries stand where places are. -/
structure EnOk (e : En) : Prop where
  lo : -1000000000 ≤ e.ent
  hi : e.ent ≤ 1000000000
  room : e.room ≤ 1000000000
theorem EnOk.rm (h : EnOk e) : 1 ≤ roomOf e ∧ roomOf e ≤ 1000000000 := by
  have := h.room
  unfold roomOf; split <;> omega

set_option maxHeartbeats 1000000 in
theorem place_any (n : Int) (h : EnOk e) (hn : 0 ≤ n) (w : World) :
    Calls Tryz.prog 163 #[.agg #[.int .i64 e.top, .int .i64 e.bot, .int .i64 e.ent, .int .i64 (roomOf e)], .int .u64 n] w fun a w' => a = .returned (.int .i64 (entOf e n)) ∧ Below w.heap.size w w' := by
  obtain ⟨r0, r1⟩ := h.rm
  have h0 := h.lo
  have h1 := h.hi
  obtain ⟨R, hR⟩ : ∃ R, R = roomOf e := ⟨_, rfl⟩
  obtain ⟨z, hz⟩ : ∃ z, z = entOf e n := ⟨_, rfl⟩
  have hz2 := hz
  unfold entOf at hz2
  rw [← hz]
  rw [← hR] at hz2 r0 r1 ⊢
  have m0 : 0 ≤ n % R := Int.emod_nonneg _ (by omega)
  have m1 : n % R < R := Int.emod_lt_of_pos _ (by omega)
  have e1 : IntKind.u64.wrap R = R := by rw [IntKind.wrap_u64]; omega
  have e2 : n.tmod R = n % R := Int.tmod_eq_emod_of_nonneg hn
  obtain ⟨y, hy⟩ : ∃ y, y = n % R := ⟨_, rfl⟩
  rw [← hy] at e2 hz2 m0 m1
  have e3 : IntKind.i64.wrap y = y := by rw [IntKind.wrap_i64]; omega
  have e5 : IntKind.u64.wrap y = y := by rw [IntKind.wrap_u64]; omega
  have e4 : IntKind.i64.wrap (e.ent + y) = z := by rw [IntKind.wrap_i64]; omega
  have hne : (R == 0) = false := by rw [beq_eq_false_iff_ne]; omega
  have hne2 : ¬ R = 0 := by omega
  clear hz hz2 hR hy
  go_enter Tryz.func163, Tryz.ntmps163
  go_wp2
  go_quiet (fail)
  go_wp2
  go_ret
  exact ⟨rfl, below_drewN ((Below.refl _ _).alloc (Nat.le_refl _) _) _⟩

/-- What of a machine is read in a step. -/
theorem Mst.cs {w : World} (h : Mst w0 w M S D e nx t b v r x L c) : w.cell? ⟨M, 0, none⟩ = some (.int .i64 e.top) ∧ w.cell? ⟨M, 1, none⟩ = some (.int .i64 e.bot) ∧ w.cell? ⟨M, 2, none⟩ = some (.int .i64 e.ent) ∧ w.cell? ⟨M, 3, none⟩ = some (.int .i64 (roomOf e)) ∧ w.cell? ⟨M, 5, none⟩ = some (.int .u64 t) ∧ w.cell? ⟨M, 6, none⟩ = some (.int .u64 b) :=
  ⟨h.c0, h.c1, h.c2, h.c3, h.c5, h.c6⟩

set_option maxHeartbeats 1000000 in
theorem seeRoom_any (w : World) (h : Mst w0 w M S D e nx t b v r x L c) (h0 : 0 ≤ c) (h1 : c ≤ 1000000000) :
    Calls Tryz.prog 149 #[ptr M, ptr S] w fun a w' => a = .returned (.tuple #[]) ∧
      Mst w0 w' M S D e (if roomOf e ≤ aheadOf b (ldv L e.top) then .nilFunc else fnv 159 M) (ldv L e.top) b v (if roomOf e ≤ aheadOf b (ldv L e.top) then 2 else r) (if roomOf e ≤ aheadOf b (ldv L e.top) then 0 else x) L (c + 1) := by
  have hmf : ∀ (fn : Fn) (first cap : Array Value) (w : World), (Instr.makeFunc fn first cap).run Tryz.prog w = .ok (.func fn first cap) w := fun _ _ _ _ => rfl
  have c1 := h.c0
  have H := Lib.hid h; clear h
  obtain ⟨T, hT⟩ : ∃ T, T = ldv L e.top := ⟨_, rfl⟩
  obtain ⟨A, hA⟩ : ∃ A, A = aheadOf b T := ⟨_, rfl⟩
  rw [← hT, ← hA]
  have HT := Lib.hid hT; have HA := Lib.hid hA; clear hT hA
  have HR : ∀ B : Bool, decide (roomOf e ≤ A) = B → Calls Tryz.prog 149 #[ptr M, ptr S] w fun a w' => a = .returned (.tuple #[]) ∧
      Mst w0 w' M S D e (if B = true then .nilFunc else fnv 159 M) T b v (if B = true then 2 else r) (if B = true then 0 else x) L (c + 1) := by
    intro B hB
    go_enter Tryz.func149, Tryz.ntmps149
    go_wp2_with (first
      | (go_at_call 27; (with_reducible refine (load_any _ _ H.out.st h0 h1).mono ?_); rintro r w1 ⟨rfl, hk⟩; rw [← HT.out]; have HK := Lib.hid (H.out.left hk); have c5 := HK.out.c5; have f5 := HK.out.f 5; have HL := Lib.hid (HK.out.p5 T); clear hk)
      | fail)
    obtain ⟨W, hW, hm⟩ : ∃ W, W = _ ∧ Mst w0 W M S D e nx T b v r x L (c + 1) := ⟨_, rfl, HL.out⟩
    rw [← hW]
    obtain ⟨q0, q1, q2, q3, q5, q6⟩ := hm.cs
    have HM := Lib.hid hm; have HMD := Lib.hid hm.drew
    clear hm HL HK c5 f5 hW
    go_region_held3 (fun w' => w'.cell? ⟨M, 0, none⟩ = some (.int .i64 e.top) ∧ w'.cell? ⟨M, 1, none⟩ = some (.int .i64 e.bot) ∧ w'.cell? ⟨M, 2, none⟩ = some (.int .i64 e.ent) ∧ w'.cell? ⟨M, 3, none⟩ = some (.int .i64 (roomOf e)) ∧ w'.cell? ⟨M, 5, none⟩ = some (.int .u64 T) ∧ w'.cell? ⟨M, 6, none⟩ = some (.int .u64 b))
      (first | exact HN.out.cs | exact HMD.out.cs | go_keep)
      (first
        | (go_at_call 157; (with_reducible refine (ahead_walk _ _ _).mono ?_); rintro r w3 ⟨rfl, hb⟩; rw [← HA.out]; have HN := Lib.hid (HMD.out.step hb); clear hb; have c4 := HN.out.c4; have f4 := HN.out.f 4; have HE := Lib.hid (HN.out.p4 (fnv 159 M)))
        | fail)
    clear q0 q1 q2 q3 q5 q6 HM HMD
    cases B
    · go_wp2
      go_returns
      exact ⟨rfl, HE.out⟩
    · go_wp2_with (first
        | (go_at_call 158; (with_reducible refine (finish_any 2 0 _ HN.out).mono ?_); rintro r w4 ⟨rfl, hz⟩)
        | fail)
      go_returns
      exact ⟨rfl, hz⟩
  by_cases hc : roomOf e ≤ A
  · simpa [hc] using HR true (by simpa using hc)
  · simpa [hc] using HR false (by simpa using hc)
end Go.Proofs.YtpocihddecemfaaGreat.Dg

namespace Go.Proofs.YtpocihddecemfaaGreat.Dg
open Go.RowKit
set_option linter.unusedVariables false
set_option maxRecDepth 100000
variable {w0 : World} {M S D : Nat} {e : En} {nx : Value} {t b v r x : Int} {L : List Int} {c : Int}

end Go.Proofs.YtpocihddecemfaaGreat.Dg

namespace Go.Proofs.YtpocihddecemfaaGreat.Dg
open Go.RowKit
set_option linter.unusedVariables false
set_option maxRecDepth 100000
variable {w0 : World} {M S D : Nat} {e : En} {nx : Value} {t b v r x : Int} {L : List Int} {c : Int}

set_option maxHeartbeats 1000000 in
/-- A word that was put is shown. -/
theorem showEntry_any (w : World) (h : Mst w0 w M S D e nx t b v r x L c) (h0 : 0 ≤ c) (h1 : c ≤ 1000000000) :
    Calls Tryz.prog 164 #[ptr M, ptr S] w fun a w' => a = .returned (.tuple #[]) ∧ Mst w0 w' M S D e .nilFunc t b v 1 0 (ptv L e.bot (IntKind.u64.wrap (b + 1))) (c + 1) := by
  have hmf : ∀ (fn : Fn) (first cap : Array Value) (w : World), (Instr.makeFunc fn first cap).run Tryz.prog w = .ok (.func fn first cap) w := fun _ _ _ _ => rfl
  obtain ⟨q0, q1, q2, q3, q5, q6⟩ := h.cs
  have q7 := h.c7
  obtain ⟨y, hy⟩ : ∃ y, y = (IntKind.u64.wrap (b + 1)) := ⟨_, rfl⟩
  rw [← hy]
  have hy' := hy.symm; clear hy
  have HD := Lib.hid h.drew; clear h
  go_enter Tryz.func164, Tryz.ntmps164
  go_wp2
  go_still_tail 11, (by kernel_rfl)
  change wpList _ _ _ _ _ w.drew
  go_wp2_with (first
    | (go_at_call 21; (with_reducible refine (put_any _ _ _ HD.out.st h0 h1).mono ?_); rintro r w1 ⟨rfl, hk⟩; have HK := Lib.hid (HD.out.left hk); clear hk; have c4 := HK.out.c4; have f4 := HK.out.f 4; have c7 := HK.out.c7)
    | (go_at_call 158; (with_reducible refine (finish_any 1 0 _ HK.out).mono ?_); rintro r w4 ⟨rfl, hz⟩)
    | fail)
  go_returns
  exact ⟨rfl, hz⟩
end Go.Proofs.YtpocihddecemfaaGreat.Dg

namespace Go.Proofs.YtpocihddecemfaaGreat.Dg
open Go.RowKit
set_option linter.unusedVariables false
set_option maxRecDepth 100000
set_option linter.unusedSimpArgs false
variable {w0 : World} {M S D : Nat} {e : En} {nx : Value} {t b v r x : Int} {L : List Int} {c : Int}

end Go.Proofs.YtpocihddecemfaaGreat.Dg

namespace Go.Proofs.YtpocihddecemfaaGreat.Dg
open Go.RowKit
set_option linter.unusedVariables false
set_option maxRecDepth 100000
variable {w0 : World} {M S D : Nat} {e : En} {nx : Value} {t b v r x : Int} {L : List Int} {c : Int}

theorem Mst.cs7 {w : World} (h : Mst w0 w M S D e nx t b v r x L c) : w.cell? ⟨M, 0, none⟩ = some (.int .i64 e.top) ∧ w.cell? ⟨M, 1, none⟩ = some (.int .i64 e.bot) ∧ w.cell? ⟨M, 2, none⟩ = some (.int .i64 e.ent) ∧ w.cell? ⟨M, 3, none⟩ = some (.int .i64 (roomOf e)) ∧ w.cell? ⟨M, 5, none⟩ = some (.int .u64 t) ∧ w.cell? ⟨M, 6, none⟩ = some (.int .u64 b) ∧ w.cell? ⟨M, 7, none⟩ = some (.int .u64 v) :=
  ⟨h.c0, h.c1, h.c2, h.c3, h.c5, h.c6, h.c7⟩
set_option maxHeartbeats 1000000 in
/-- An entry is put. -/
theorem putEntry_any (w : World) (h : Mst w0 w M S D e nx t b v r x L c) (h0 : 0 ≤ c) (h1 : c ≤ 1000000000) (ok : EnOk e) (hb0 : 0 ≤ b) :
    Calls Tryz.prog 159 #[ptr M, ptr S] w fun a w' => a = .returned (.tuple #[]) ∧ Mst w0 w' M S D e (fnv 164 M) t b v r x (ptv L (entOf e b) v) (c + 1) := by
  have hmf : ∀ (fn : Fn) (first cap : Array Value) (w : World), (Instr.makeFunc fn first cap).run Tryz.prog w = .ok (.func fn first cap) w := fun _ _ _ _ => rfl
  obtain ⟨q0, q1, q2, q3, q5, q6, q7⟩ := h.cs7
  have HMD := Lib.hid h.drew; clear h
  go_enter Tryz.func159, Tryz.ntmps159
  go_wp2
  go_region_held3 (fun w' => w'.cell? ⟨M, 0, none⟩ = some (.int .i64 e.top) ∧ w'.cell? ⟨M, 1, none⟩ = some (.int .i64 e.bot) ∧ w'.cell? ⟨M, 2, none⟩ = some (.int .i64 e.ent) ∧ w'.cell? ⟨M, 3, none⟩ = some (.int .i64 (roomOf e)) ∧ w'.cell? ⟨M, 5, none⟩ = some (.int .u64 t) ∧ w'.cell? ⟨M, 6, none⟩ = some (.int .u64 b) ∧ w'.cell? ⟨M, 7, none⟩ = some (.int .u64 v))
    (first | exact HQ.out.cs7 | exact HN.out.cs7 | exact HMD.out.cs7 | go_keep)
    (first
      | (go_at_call 163; (with_reducible refine (place_any b ok hb0 _).mono ?_); rintro r w3 ⟨rfl, hb⟩; have HN := Lib.hid (HMD.out.step hb); clear hb)
      | (go_at_call 21; (with_reducible refine (put_any _ _ _ HN.out.st h0 h1).mono ?_); rintro r w4 ⟨rfl, hk⟩; have HQ := Lib.hid (HN.out.left hk); clear hk; have c4 := HQ.out.c4; have f4 := HQ.out.f 4; have HE := Lib.hid (HQ.out.p4 (fnv 164 M)))
      | fail)
  go_wp2
  go_returns
  exact ⟨rfl, HE.out⟩
end Go.Proofs.YtpocihddecemfaaGreat.Dg

namespace Go.Proofs.YtpocihddecemfaaGreat.Dg
open Go.RowKit
set_option linter.unusedVariables false
set_option maxRecDepth 100000
set_option linter.unusedSimpArgs false
variable {w0 : World} {M S D : Nat} {e : En} {nx : Value} {t b v r x : Int} {L : List Int} {c : Int}

theorem Mst.see7 {w : World} (h : Mst w0 w M S D e nx t b v r x L c) (y : Int) (f : Value) : Mst w0 ((w.setCell ⟨M, 7, none⟩ (.int .u64 y)).setCell ⟨M, 4, none⟩ f) M S D e f t b y r x L c := (h.p7 y).p4 f
end Go.Proofs.YtpocihddecemfaaGreat.Dg

namespace Go.Proofs.YtpocihddecemfaaGreat.Dg
open Go.RowKit
set_option linter.unusedVariables false
set_option maxRecDepth 100000
set_option linter.unusedSimpArgs false

theorem ldv_eq (L : List Int) (a : Int) : ldv L a = ldq L a := by
  unfold ldv ldq inB; simp
theorem ptv_eq (L : List Int) (a v : Int) : ptv L a v = ptq L a v := by
  unfold ptv ptq inB; simp
theorem u64w_eq (a : Int) : IntKind.u64.wrap a = u64w a := IntKind.wrap_u64 a
theorem ahead_eq (a b : Int) : aheadOf a b = ahead a b := rfl
theorem swB_iff (L : List Int) (a o : Int) : swB L a o = true ↔ ((0 ≤ a ∧ a < L.length) ∧ L.getD a.toNat 0 = o) := by
  unfold swB inB; simp
theorem swv_eq (L : List Int) (a o v : Int) : swv L a o v = if (0 ≤ a ∧ a < L.length) ∧ L.getD a.toNat 0 = o then ptq L a v else L := by
  unfold swv
  by_cases h : (0 ≤ a ∧ a < L.length) ∧ L.getD a.toNat 0 = o
  · rw [if_pos ((swB_iff ..).2 h), if_pos h]; unfold ptq; rw [if_pos h.1]
  · rw [if_neg (fun h2 => h ((swB_iff ..).1 h2)), if_neg h]

/-- The function that does a machine's next step. -/
def nfn (m : Mc) : Nat :=
  if m.pc = 1 then 143 else if m.pc = 2 then 149 else if m.pc = 3 then 159 else 164
def nxt (M : Nat) (m : Mc) : Value := if m.pc = 0 then .nilFunc else fnv (nfn m) M
def rOf (m : Mc) : Int := if m.pc = 0 then m.out else 0
def xOf (m : Mc) : Int := if m.pc = 0 then m.w else 0
/-- A machine in memory. -/
def Mi (w0 w : World) (M S D : Nat) (m : Mc) (L : List Int) (c : Int) : Prop :=
  ∃ t b v, Mst w0 w M S D m.e (nxt M m) t b v (rOf m) (xOf m) L c ∧ (m.pc ≠ 0 → t = m.t ∧ b = m.b ∧ v = m.w)
/-- What it knows are words. -/
structure Wf (m : Mc) : Prop where
  kd : m.kind = 1
  ok : EnOk m.e
  b : 0 ≤ m.b
  t : 0 ≤ m.t

section
variable {w0 w w' : World} {M S D : Nat} {m : Mc} {L : List Int} {c : Int}
theorem Mi.of {m' : Mc} {t b v r x : Int} {nx : Value} (h : Mst w0 w M S D m'.e nx t b v r x L c) (h1 : nx = nxt M m') (h2 : r = rOf m') (h3 : x = xOf m') (h4 : m'.pc ≠ 0 → t = m'.t ∧ b = m'.b ∧ v = m'.w) : Mi w0 w M S D m' L c := by
  subst h1 h2 h3; exact ⟨t, b, v, h, h4⟩
theorem Mi.at (h : Mi w0 w M S D m L c) (hp : m.pc ≠ 0) : Mst w0 w M S D m.e (fnv (nfn m) M) m.t m.b m.w 0 0 L c := by
  obtain ⟨t, b, v, h, h2⟩ := h
  obtain ⟨rfl, rfl, rfl⟩ := h2 hp
  simpa [nxt, rOf, xOf, hp] using h
theorem Mi.no (h : Mi w0 w M S D m L c) (hp : m.pc = 0) : ∃ t b v, Mst w0 w M S D m.e .nilFunc t b v m.out m.w L c := by
  obtain ⟨t, b, v, h, h2⟩ := h
  exact ⟨t, b, v, by simpa [nxt, rOf, xOf, hp] using h⟩

theorem next_push (h : Mi w0 w M S D m L c) (hp : m.pc ≠ 0) (hk : m.kind = 1) (wf : Wf m) (h0 : 0 ≤ c) (h1 : c ≤ 1000000000) :
    Calls Tryz.prog (nfn m) #[ptr M, ptr S] w fun a w' => a = .returned (.tuple #[]) ∧ Mi w0 w' M S D (stp L m).2 (stp L m).1 (c + 1) := by
  have h' := h.at hp
  have es : stp L m = pushS L m := by simp [stp, hp, hk]
  rw [es]
  unfold pushS
  by_cases p1 : m.pc = 1
  · rw [if_pos p1, show nfn m = 143 by simp [nfn, hk, p1]]
    refine (seeBottom_any _ h' h0 h1).mono ?_
    rintro a w1 ⟨rfl, k⟩
    rw [ldv_eq] at k
    exact ⟨rfl, Mi.of (m' := { m with pc := 2, b := ldq L m.e.bot }) k (by simp [nxt, nfn, hk]) (by simp [rOf]) (by simp [xOf]) (fun _ => ⟨rfl, rfl, rfl⟩)⟩
  rw [if_neg p1]
  by_cases p2 : m.pc = 2
  · rw [if_pos p2, show nfn m = 149 by simp [nfn, hk, p2]]
    refine (seeRoom_any _ h' h0 h1).mono ?_
    rintro a w1 ⟨rfl, k⟩
    rw [ldv_eq, ahead_eq] at k
    refine ⟨rfl, ?_⟩
    by_cases hc : roomOf m.e ≤ ahead m.b (ldq L m.e.top)
    · rw [if_pos hc]
      simp only [if_pos hc] at k
      exact Mi.of (m' := fin m 2 0) k (by simp [nxt, fin]) (by simp [rOf, fin]) (by simp [xOf, fin]) (fun hn => absurd rfl hn)
    · rw [if_neg hc]
      simp only [if_neg hc] at k
      exact Mi.of (m' := { m with pc := 3, t := ldq L m.e.top }) k (by simp [nxt, nfn, hk]) (by simp [rOf]) (by simp [xOf]) (fun _ => ⟨rfl, rfl, rfl⟩)
  rw [if_neg p2]
  by_cases p3 : m.pc = 3
  · rw [if_pos p3, show nfn m = 159 by simp [nfn, hk, p3]]
    refine (putEntry_any _ h' h0 h1 wf.ok wf.b).mono ?_
    rintro a w1 ⟨rfl, k⟩
    rw [ptv_eq] at k
    exact ⟨rfl, Mi.of (m' := { m with pc := 4 }) k (by simp [nxt, nfn, hk]) (by simp [rOf]) (by simp [xOf]) (fun _ => ⟨rfl, rfl, rfl⟩)⟩
  rw [if_neg p3, show nfn m = 164 by simp [nfn, hk, p1, p2, p3]]
  refine (showEntry_any _ h' h0 h1).mono ?_
  rintro a w1 ⟨rfl, k⟩
  rw [ptv_eq, u64w_eq] at k
  exact ⟨rfl, Mi.of (m' := fin m 1 0) k (by simp [nxt, fin]) (by simp [rOf, fin]) (by simp [xOf, fin]) (fun hn => absurd rfl hn)⟩

theorem next_any (h : Mi w0 w M S D m L c) (hp : m.pc ≠ 0) (wf : Wf m) (h0 : 0 ≤ c) (h1 : c ≤ 1000000000) :
    Calls Tryz.prog (nfn m) #[ptr M, ptr S] w fun a w' => a = .returned (.tuple #[]) ∧ Mi w0 w' M S D (stp L m).2 (stp L m).1 (c + 1) := by
  exact next_push h hp wf.kd wf h0 h1
end
end Go.Proofs.YtpocihddecemfaaGreat.Dg

namespace Go.Proofs.YtpocihddecemfaaGreat.Dg
open Go.RowKit
set_option linter.unusedVariables false
set_option maxRecDepth 100000
set_option linter.unusedSimpArgs false
variable {w0 : World} {M S D : Nat} {m : Mc} {L : List Int} {c : Int}

theorem eqin_fn (d f M : Nat) (w : World) : (Op.equalIn (d + 1) 106 (fnv f M) .nilFunc).run Tryz.prog w = .ok false w := by
  simp [Op.equalIn, run_underlying Tryz.underlying106]
theorem eqin_nil (d : Nat) (w : World) : (Op.equalIn (d + 1) 106 .nilFunc .nilFunc).run Tryz.prog w = .ok true w := by
  simp [Op.equalIn, run_underlying Tryz.underlying106]
@[go_sem] theorem eql_fn (f M : Nat) (w : World) : (binOp .eql 106 (fnv f M) .nilFunc).run Tryz.prog w = .ok (.bool false) w := by
  have h : (Op.equal 106 (fnv f M) .nilFunc).run Tryz.prog w = .ok false w := eqin_fn 9999 f M w
  simp only [binOp]
  simp [h]
@[go_sem] theorem eql_nil (w : World) : (binOp .eql 106 .nilFunc .nilFunc).run Tryz.prog w = .ok (.bool true) w := by
  have h : (Op.equal 106 .nilFunc .nilFunc).run Tryz.prog w = .ok true w := eqin_nil 9999 w
  simp only [binOp]
  simp [h]

def cst (m : Mc) (c : Int) : Int := if m.pc = 0 then c else c + 1
theorem Mi.nx {w : World} (h : Mi w0 w M S D m L c) : w.cell? ⟨M, 4, none⟩ = some (nxt M m) := by
  obtain ⟨t, b, v, h, _⟩ := h; exact h.c4
theorem nxt_no (h : m.pc = 0) : nxt M m = .nilFunc := by simp [nxt, h]
theorem nxt_at (h : m.pc ≠ 0) : nxt M m = fnv (nfn m) M := by simp [nxt, h]

theorem nfn_is (m : Mc) (P : Nat → Prop) (a0 : P 143) (a1 : P 149) (a2 : P 159) (a3 : P 164) : P (nfn m) := by
  unfold nfn
  repeat' split
  all_goals assumption
theorem enter_nfn (m : Mc) (a : Array Value) (w : World) : (callFunc (nfn m) a).run Tryz.prog w = .ok (.enter (nfn m) a) w := by
  refine nfn_is m (fun f => (callFunc f a).run Tryz.prog w = .ok (.enter f a) w) ?_ ?_ ?_ ?_ <;> simp [go_sem]

set_option maxHeartbeats 1000000 in
theorem step_on (w : World) (h : Mi w0 w M S D m L c) (wf : Wf m) (h0 : 0 ≤ c) (h1 : c ≤ 1000000000) (hp : m.pc ≠ 0) :
    Calls Tryz.prog 138 #[ptr M, ptr S] w fun a w' => a = .returned (.bool (decide ((stp L m).2.pc = 0))) ∧ Mi w0 w' M S D (stp L m).2 (stp L m).1 (c + 1) := by
  have c4 := h.nx
  rw [nxt_at hp] at c4
  have HN := Lib.hid (next_any h hp wf h0 h1)
  have hen := fun (a : Array Value) (w : World) => enter_nfn m a w
  generalize nfn m = f at c4 HN hen
  generalize stp L m = z at HN ⊢
  obtain ⟨L', m'⟩ := z
  have HP := Lib.hid hp; have WF := Lib.hid wf
  clear h hp wf
  by_cases hp' : m'.pc = 0
  · have e1 : decide (m'.pc = 0) = true := by simpa using hp'
    rw [e1]
    have HP' := Lib.hid hp'; clear hp' e1
    go_enter Tryz.func138, Tryz.ntmps138
    go_wp2_with (first
      | ((with_reducible refine HN.out.mono ?_); rintro r w1 ⟨rfl, hk⟩; have HK := Lib.hid hk; have d4 := hk.nx; rw [nxt_no HP'.out] at d4; clear hk)
      | fail)
    go_ret
    exact ⟨rfl, HK.out⟩
  · have e1 : decide (m'.pc = 0) = false := by simpa using hp'
    rw [e1]
    have HP' := Lib.hid hp'; clear hp' e1
    go_enter Tryz.func138, Tryz.ntmps138
    go_wp2_with (first
      | ((with_reducible refine HN.out.mono ?_); rintro r w1 ⟨rfl, hk⟩; have HK := Lib.hid hk; have d4 := hk.nx; rw [nxt_at HP'.out] at d4; clear hk)
      | fail)
    go_ret
    exact ⟨rfl, HK.out⟩

theorem stp_no {m : Mc} (h : m.pc = 0) (L : List Int) : stp L m = (L, m) := by simp [stp, h]
set_option maxHeartbeats 1000000 in
theorem step_off (w : World) (h : Mi w0 w M S D m L c) (hp : m.pc = 0) :
    Calls Tryz.prog 138 #[ptr M, ptr S] w fun a w' => a = .returned (.bool true) ∧ w = w' := by
  have c4 := h.nx
  rw [nxt_no hp] at c4
  clear h hp
  go_enter Tryz.func138, Tryz.ntmps138
  go_wp2
  go_ret
  exact ⟨rfl, rfl⟩
/-- A step. -/
theorem step_any (w : World) (h : Mi w0 w M S D m L c) (wf : Wf m) (h0 : 0 ≤ c) (h1 : c ≤ 1000000000) :
    Calls Tryz.prog 138 #[ptr M, ptr S] w fun a w' => a = .returned (.bool (decide ((stp L m).2.pc = 0))) ∧ Mi w0 w' M S D (stp L m).2 (stp L m).1 (cst m c) := by
  by_cases hp : m.pc = 0
  · rw [stp_no hp]
    refine (step_off w h hp).mono ?_
    rintro a w' ⟨rfl, rfl⟩
    exact ⟨by simp [hp], by simpa [cst, hp] using h⟩
  · refine (step_on w h wf h0 h1 hp).mono ?_
    rintro a w' ⟨rfl, hk⟩
    exact ⟨rfl, by simpa [cst, hp] using hk⟩

/-- A machine in memory. -/
def MM (w : World) (M : Nat) (m : Mc) : Prop := ∃ t b v, Mem w M m.e (nxt M m) t b v (rOf m) (xOf m) ∧ (m.pc ≠ 0 → t = m.t ∧ b = m.b ∧ v = m.w)
theorem MM.lt {w : World} (h : MM w M m) : M < w.heap.size := by obtain ⟨t, b, v, h, _⟩ := h; exact (Array.getElem?_eq_some_iff.1 h).1
theorem MM.u3 {w w' : World} {M' : Nat} (h : MM w M m) (u : U3 M' S D w w') (n0 : M ≠ M') (n1 : M ≠ S) (n2 : M ≠ D) : MM w' M m := by
  have hl := h.lt
  obtain ⟨t, b, v, h, k⟩ := h
  exact ⟨t, b, v, (u.block M hl n0 n1 n2).trans h, k⟩
theorem MM.below {w w' : World} (h : MM w M m) (hb : Below w.heap.size w w') : MM w' M m := by
  have hl := h.lt
  obtain ⟨t, b, v, h, k⟩ := h
  exact ⟨t, b, v, (hb.block M hl).trans h, k⟩
theorem MM.mi {w : World} (h : MM w M m) (hs : St w S D L c) (n1 : M ≠ S) (n2 : M ≠ D) : Mi w w M S D m L c := by
  obtain ⟨t, b, v, h, k⟩ := h
  exact ⟨t, b, v, ⟨h, hs, n1, n2, .refl _ _ _ _⟩, k⟩
theorem Mi.mm {w : World} (h : Mi w0 w M S D m L c) : MM w M m := by
  obtain ⟨t, b, v, h, k⟩ := h
  exact ⟨t, b, v, h.mem, k⟩
theorem Mi.st {w : World} (h : Mi w0 w M S D m L c) : St w S D L c := by obtain ⟨t, b, v, h, k⟩ := h; exact h.st
theorem Mi.u {w : World} (h : Mi w0 w M S D m L c) : U3 M S D w0 w := by obtain ⟨t, b, v, h, k⟩ := h; exact h.u
theorem Mi.n1 {w : World} (h : Mi w0 w M S D m L c) : M ≠ S := by obtain ⟨t, b, v, h, k⟩ := h; exact h.n1
theorem Mi.n2 {w : World} (h : Mi w0 w M S D m L c) : M ≠ D := by obtain ⟨t, b, v, h, k⟩ := h; exact h.n2

set_option maxHeartbeats 1000000 in
theorem res_any (w : World) (h : MM w M m) :
    Calls Tryz.prog 150 #[ptr M] w fun a w' => a = .returned (.tuple #[.int .i64 (rOf m), .int .u64 (xOf m)]) ∧ Below w.heap.size w w' := by
  obtain ⟨t, b, v, h, _⟩ := h
  have c8 : w.cell? ⟨M, 8, none⟩ = some (.int .i64 (rOf m)) := by unfold Mem at h; simp [World.cell?, h]
  have c9 : w.cell? ⟨M, 9, none⟩ = some (.int .u64 (xOf m)) := by unfold Mem at h; simp [World.cell?, h]
  clear h
  go_enter Tryz.func150, Tryz.ntmps150
  go_wp2
  go_quiet (fail)
  go_wp2
  go_ret2
  exact ⟨rfl, below_drewN (Below.refl _ _) _⟩

/-- All words are words. -/
def NN (L : List Int) : Prop := ∀ x ∈ L, 0 ≤ x
theorem NN.ld (h : NN L) (a : Int) : 0 ≤ ldq L a := by
  unfold ldq; split
  · rename_i hh
    have hl : a.toNat < L.length := by omega
    rw [List.getD, List.getElem?_eq_getElem hl]
    exact h _ (List.getElem_mem hl)
  · omega
theorem NN.pt (h : NN L) (a : Int) {v : Int} (hv : 0 ≤ v) : NN (ptq L a v) := by
  unfold ptq; split
  · intro x hx
    rcases List.mem_or_eq_of_mem_set hx with h2 | rfl
    · exact h x h2
    · exact hv
  · exact h
theorem u64w_nn (a : Int) : 0 ≤ u64w a := by unfold u64w; omega
theorem ite_ind {α : Type} {P : α → Prop} {q : Prop} [Decidable q] {a b : α} (ha : P a) (hb : P b) : P (if q then a else b) := by split <;> assumption
/-- A machine that knows words alone goes on to know words alone. -/
structure Ws (L : List Int) (m : Mc) : Prop where
  nn : NN L
  ok : EnOk m.e
  b : 0 ≤ m.b
  t : 0 ≤ m.t
  w : 0 ≤ m.w
  kd : m.kind = 1
theorem Ws.wf (h : Ws L m) : Wf m := ⟨h.kd, h.ok, h.b, h.t⟩
theorem Ws.stp (h : Ws L m) : Ws (stp L m).1 (stp L m).2 := by
  have h1 := h.b
  have h2 := h.t
  have h3 := h.w
  have l := h.nn.ld
  have p := fun a {v} hv => h.nn.pt a (v := v) hv
  have u := u64w_nn
  have key : ∀ P : List Int × Mc → Prop, (∀ L' m', Ws L' m' → P (L', m')) → P (Dg.stp L m) := by
   intro P hP
   unfold Dg.stp pushS popS stealS fin
   repeat' refine ite_ind (P := P) ?_ ?_
   all_goals apply hP
   all_goals try (by_cases hw : m.won = true <;> simp only [hw, if_true, if_false, Bool.false_eq_true])
   all_goals first
    | exact ⟨h.nn, h.ok, h1, h2, h3, h.kd⟩
    | exact ⟨h.nn, h.ok, l _, h2, h3, h.kd⟩
    | exact ⟨h.nn, h.ok, h1, l _, h3, h.kd⟩
    | exact ⟨h.nn, h.ok, h1, h2, l _, h.kd⟩
    | exact ⟨h.nn, h.ok, u _, h2, h3, h.kd⟩
    | exact ⟨h.nn, h.ok, h1, h2, Int.le_refl 0, h.kd⟩
    | exact ⟨p _ h3, h.ok, h1, h2, h3, h.kd⟩
    | exact ⟨p _ h1, h.ok, h1, h2, h3, h.kd⟩
    | exact ⟨p _ (u _), h.ok, h1, h2, h3, h.kd⟩
    | exact ⟨p _ (u _), h.ok, h1, h2, Int.le_refl 0, h.kd⟩
  exact key (fun z => Ws z.1 z.2) fun _ _ hz => hz
theorem Ws.other {k : Mc} (h : Ws L m) (hk : Ws L k) : Ws (Dg.stp L m).1 k := ⟨h.stp.nn, hk.ok, hk.b, hk.t, hk.w, hk.kd⟩
theorem ws_push {e : En} {v : Int} (h : NN L) (ok : EnOk e) (hv : 0 ≤ v) : Ws L (mPush e v) := ⟨h, ok, Int.le_refl 0, Int.le_refl 0, hv, rfl⟩
theorem cst_le (m : Mc) (c : Int) : c ≤ cst m c ∧ cst m c ≤ c + 1 := by unfold cst; split <;> omega
end Go.Proofs.YtpocihddecemfaaGreat.Dg

namespace Go.Proofs.YtpocihddecemfaaGreat.Dg
set_option linter.unusedVariables false
set_option maxRecDepth 100000
set_option linter.unusedSimpArgs false
/-! A machine that runs alone. -/
def runs : Nat → List Int → Mc → List Int × Mc
  | 0, L, m => (L, m)
  | k + 1, L, m => runs k (stp L m).1 (stp L m).2
theorem runs_done {L : List Int} {m : Mc} (h : m.pc = 0) (k : Nat) : runs k L m = (L, m) := by
  have e1 : stp L m = (L, m) := by simp [stp, h]
  induction k with
  | zero => rfl
  | succ k ih => simp only [runs, e1]; exact ih

/-- What comes of one that runs alone to its end: a push (w), or a pop. -/
inductive AloneEv (n : Nat) (w : Int) (k : Nat) (m' : Mc) (R Q' : List Int) : Prop
  | pushed (hk : k = 1) (ho : m'.out = 1) (h3 : Q' = R ++ [w]) (h4 : R.length < n)
  | full (hk : k = 1) (ho : m'.out = 2) (h3 : Q' = R) (h4 : n ≤ R.length)
  | took (hk : k = 2) (ho : m'.out = 1) (h3 : R = Q' ++ [m'.w])
  | none (hk : k = 2) (ho : m'.out = 3) (h3 : Q' = R) (h4 : R = []) (h5 : m'.w = 0)

theorem alone_any {n : Nat} {e : En} {w : Int} (k : Nat) : ∀ {L : List Int} {T β g bc : Int} {Q : List Int} {m : Mc}, Dq n e L T β bc Q → Ph n e L T β Q w g bc m → m.pc ≠ 0 → β < 1000 → left m ≤ k →
    (m.kind = 1 → hand m = []) →
    ∃ T' β' Q', Dq n e (runs k L m).1 T' β' β' Q' ∧ (runs k L m).2.pc = 0 ∧ (runs k L m).2.e = e ∧ β' ≤ β + 1 ∧ AloneEv n w m.kind (runs k L m).2 (Q ++ hand m) Q' := by
  induction k with
  | zero => 
    intro L T β g bc Q m D P hp hs hk
    have := own_left (L := L) P hp; omega
  | succ k ih =>
    intro L T β g bc Q m D P hp hs hk hh
    have hl := own_left (L := L) P hp
    obtain ⟨T', β', g', bc', Q', D', P', h1, h2, h3, h4, ev⟩ := own_step D P hp hs
    simp only [runs]
    by_cases hp' : (stp L m).2.pc = 0
    · rw [runs_done hp']
      have hidle : bc' = β' ∧ (stp L m).2.e = e := by
        generalize (stp L m).2 = m2 at P' hp'
        cases P' <;> simp_all
      refine ⟨T', β', Q', by rw [← hidle.1]; exact hidle.1 ▸ D', hp', hidle.2, h3, ?_⟩
      cases ev with
      | on h => exact absurd hp' h
      | pushed h hk ho h1 h2 h3 h4 => exact .pushed hk ho (by rw [h1]; simpa using h3) (by rw [h1]; simpa using h4)
      | full h hk ho h1 h2 h3 h4 => exact .full hk ho (by rw [h1]; simpa using h3) (by rw [h1]; simpa using h4)
      | took h hk ho h2 h3 hs => exact .took hk ho h3
      | none h hk ho h1 h2 h3 h4 h5 => exact .none hk ho (by rw [h1]; simpa using h3) (by rw [h1]; simpa using h4) h5
    · have hb := h4 hp'
      have hev : (stp L m).2.kind = m.kind ∧ Q ++ hand m = Q' ++ hand (stp L m).2 := by
        cases ev with
        | on h hk h2 hs => exact ⟨hk, h2⟩
        | pushed h => exact absurd h hp'
        | full h => exact absurd h hp'
        | took h => exact absurd h hp'
        | none h => exact absurd h hp'
      obtain ⟨T2, β2, Q2, D2, p2, e2, b2, ev2⟩ := ih D' P' hp' (by omega) (by omega) (fun hk1 => by simp [hand, hk1])
      exact ⟨T2, β2, Q2, D2, p2, e2, by omega, by rw [← hev.1, hev.2]; exact ev2⟩
/-- A push alone, and a pop alone. -/
theorem push_alone {n : Nat} {e : En} {L : List Int} {T β : Int} {Q : List Int} (D : Dq n e L T β β Q) (hs : β < 1000) (w : Int) (k : Nat) (hk6 : 4 ≤ k) :
    ∃ T' β' Q', Dq n e (runs k L (mPush e w)).1 T' β' β' Q' ∧ (runs k L (mPush e w)).2.pc = 0 ∧ β' ≤ β + 1 ∧
      (((runs k L (mPush e w)).2.out = 1 ∧ Q' = Q ++ [w] ∧ Q.length < n) ∨ ((runs k L (mPush e w)).2.out = 2 ∧ Q' = Q ∧ n ≤ Q.length)) := by
  obtain ⟨T', β', Q', D', p, _, b, ev⟩ := alone_any (w := w) k D (.push1 0 0 false 0) (by simp) hs (by simp [left]; omega) (fun _ => by simp [hand])
  refine ⟨T', β', Q', D', p, b, ?_⟩
  cases ev with
  | pushed hk ho h3 h4 => exact .inl ⟨ho, by simpa [hand] using h3, by simpa [hand] using h4⟩
  | full hk ho h3 h4 => exact .inr ⟨ho, by simpa [hand] using h3, by simpa [hand] using h4⟩
  | took hk => cases hk
  | none hk => cases hk
theorem pop_alone {n : Nat} {e : En} {L : List Int} {T β : Int} {Q : List Int} (D : Dq n e L T β β Q) (hs : β < 1000) (k : Nat) (hk6 : 6 ≤ k) :
    ∃ T' β' Q', Dq n e (runs k L (mPop e)).1 T' β' β' Q' ∧ (runs k L (mPop e)).2.pc = 0 ∧ β' ≤ β + 1 ∧
      (((runs k L (mPop e)).2.out = 1 ∧ Q = Q' ++ [(runs k L (mPop e)).2.w]) ∨ ((runs k L (mPop e)).2.out = 3 ∧ Q' = [] ∧ Q = [] ∧ (runs k L (mPop e)).2.w = 0)) := by
  obtain ⟨T', β', Q', D', p, _, b, ev⟩ := alone_any (w := 0) k D (.pop1 0 0 0 false 0) (by simp) hs (by simp [left]; omega) (fun h => by simp [hand])
  refine ⟨T', β', Q', D', p, b, ?_⟩
  cases ev with
  | pushed hk => cases hk
  | full hk => cases hk
  | took hk ho h3 => exact .inl ⟨ho, by simpa [hand, mPop] using h3⟩
  | none hk ho h3 h4 h5 =>
    have h4' : Q = [] := by simpa [hand] using h4
    exact .inr ⟨ho, by rw [h3]; simpa [hand] using h4', h4', h5⟩

/-- A push alone, step by step: a deque that isn't full, one that is. -/
theorem push_four {n : Nat} {e : En} {L : List Int} {T β : Int} {Q : List Int} (D : Dq n e L T β β Q) (hs : β < 1000) (w : Int) (hf : (Q.length : Int) < n) :
    (stp L (mPush e w)).2.pc ≠ 0 ∧ (runs 2 L (mPush e w)).2.pc ≠ 0 ∧ (runs 3 L (mPush e w)).2.pc ≠ 0 ∧ (runs 4 L (mPush e w)).2.pc = 0 ∧ (runs 4 L (mPush e w)).2.out = 1 := by
  have h0 := D.t0
  have hq := D.q
  have h1 := D.ld1
  rw [u64_in (by omega) (by omega)] at h1
  have h2 := D.ld0
  have h3 := ahead_in (a := β) (b := T) (by omega) (by have := D.full; omega)
  have h4 := D.g.rm
  have hc : ¬ (n : Int) ≤ β - T := by omega
  have e1 : stp L (mPush e w) = (L, ⟨1, 2, e, β, 0, w, false, 0⟩) := by simp [stp, pushS, mPush, h1]
  have e2 : stp L ⟨1, 2, e, β, 0, w, false, 0⟩ = (L, ⟨1, 3, e, β, T, w, false, 0⟩) := by simp [stp, pushS, h2, h3, h4, hc]
  have e3 : stp L ⟨1, 3, e, β, T, w, false, 0⟩ = (ptq L (entOf e β) w, ⟨1, 4, e, β, T, w, false, 0⟩) := by simp [stp, pushS]
  have e4 : ∀ M, stp M ⟨1, 4, e, β, T, w, false, 0⟩ = (ptq M e.bot (u64w (β + 1)), ⟨1, 0, e, β, T, 0, false, 1⟩) := fun M => by simp [stp, pushS, fin]
  simp only [runs, e1, e2, e3, e4]
  simp
theorem push_two {n : Nat} {e : En} {L : List Int} {T β : Int} {Q : List Int} (D : Dq n e L T β β Q) (hs : β < 1000) (w : Int) (hf : (n : Int) ≤ Q.length) :
    ∃ m, stp L (mPush e w) = (L, ⟨1, 2, e, β, 0, w, false, 0⟩) ∧ stp L ⟨1, 2, e, β, 0, w, false, 0⟩ = (L, m) ∧ m.pc = 0 ∧ m.out = 2 := by
  have h0 := D.t0
  have hq := D.q
  have h1 := D.ld1
  rw [u64_in (by omega) (by omega)] at h1
  have h2 := D.ld0
  have h3 := ahead_in (a := β) (b := T) (by omega) (by have := D.full; omega)
  have h4 := D.g.rm
  have hc : (n : Int) ≤ β - T := by omega
  exact ⟨⟨1, 0, e, β, 0, 0, false, 2⟩, by simp [stp, pushS, mPush, h1], by simp [stp, pushS, h2, h3, h4, hc, fin], rfl, rfl⟩
end Go.Proofs.YtpocihddecemfaaGreat.Dg

namespace Go.Proofs.YtpocihddecemfaaGreat.Dg
open Go.RowKit
set_option linter.unusedVariables false
set_option maxRecDepth 100000
set_option linter.unusedSimpArgs false
variable {w0 : World} {M S D : Nat} {m : Mc} {L : List Int} {c : Int}

abbrev enV (e : En) : Value := .agg #[.int .i64 e.top, .int .i64 e.bot, .int .i64 e.ent, .int .i64 e.room]
/-- A machine in new memory. -/
def NewM (w : World) (m : Mc) (a : Ending) (w' : World) : Prop := ∃ M, a = .returned (ptr M) ∧ w.heap.size ≤ M ∧ MM w' M m ∧ Below w.heap.size w w'

theorem new_m {e : En} {v : Int} {m : Mc} {g : Nat} (hm : m.e = e ∧ nfn m = g ∧ m.pc = 1 ∧ m.t = 0 ∧ m.b = 0 ∧ m.w = v) (w : World) (o : Obj) (R : Int) (hR : R = roomOf e) :
    NewM w m (.returned (ptr (w.heap.size + 1))) ((w.alloc o).alloc (.cells #[.int .i64 e.top, .int .i64 e.bot, .int .i64 e.ent, .int .i64 R, fnv g (w.heap.size + 1), .int .u64 0, .int .u64 0, .int .u64 v, .int .i64 0, .int .u64 0] 191)) := by
  obtain ⟨rfl, rfl, hp, h1, h2, rfl⟩ := hm
  subst hR
  refine ⟨w.heap.size + 1, rfl, by omega, ⟨0, 0, m.w, ?_, fun _ => ⟨h1.symm, h2.symm, rfl⟩⟩, below_alloc0 (below_alloc0 (Below.refl _ _) _) _⟩
  have hn : nxt (w.heap.size + 1) m = fnv (nfn m) (w.heap.size + 1) := nxt_at (by omega)
  have hr : rOf m = 0 := by simp [rOf, hp]
  have hx : xOf m = 0 := by simp [xOf, hp]
  unfold Mem
  rw [hn, hr, hx]
  have key : ∀ X : Obj, ((w.heap.push o).push X)[w.heap.size + 1]? = some X := by
    intro X
    have e : w.heap.size + 1 = (w.heap.push o).size := by simp
    rw [e]; exact Array.getElem?_push_size
  exact key _

set_option maxHeartbeats 1000000 in
theorem begun_any (f g : Nat) (hf : f = 136 ∧ g = 143) (e : En) (v : Int) (m : Mc) (hm : m.e = e ∧ nfn m = g ∧ m.pc = 1 ∧ m.t = 0 ∧ m.b = 0 ∧ m.w = v) (w : World) :
    Calls Tryz.prog 135 #[enV e, .int .u64 v, .func (.func f) #[] #[]] w (NewM w m) := by
  have HM := Lib.hid hm
  clear hm
  have hmf : ∀ (fn : Fn) (first cap : Array Value) (w : World), (Instr.makeFunc fn first cap).run Tryz.prog w = .ok (.func fn first cap) w := fun _ _ _ _ => rfl
  by_cases hr : e.room < 1
  · have hmx : Lay.imax e.room 1 = 1 := by unfold Lay.imax; omega
    rcases hf with ⟨rfl, rfl⟩
    all_goals
      go_enter Tryz.func135, Tryz.ntmps135
      go_wp2
      go_ret
      exact new_m HM.out w _ 1 (by unfold roomOf; split <;> omega)
  · have hmx : Lay.imax e.room 1 = e.room := by unfold Lay.imax; omega
    rcases hf with ⟨rfl, rfl⟩
    all_goals
      go_enter Tryz.func135, Tryz.ntmps135
      go_wp2
      go_ret
      exact new_m HM.out w _ e.room (by unfold roomOf; split <;> omega)

theorem newM_step {w w1 w' : World} {m : Mc} {a : Ending} (hb : Below w.heap.size w w1) (h : NewM w1 m a w') : NewM w m a w' := by
  obtain ⟨M, rfl, hM, hm, hb'⟩ := h
  exact ⟨M, rfl, Nat.le_trans hb.size hM, hm, below_step hb hb.size hb'⟩
theorem below_al (w : World) (o : Obj) : Below w.heap.size w (w.alloc o) := below_alloc0 (Below.refl _ _) o

set_option maxHeartbeats 1000000 in
theorem push_any (e : En) (v : Int) (w : World) : Calls Tryz.prog 126 #[enV e, .int .u64 v] w (NewM w (mPush e v)) := by
  go_enter Tryz.func126, Tryz.ntmps126
  go_wp2_with (first
    | (go_at_call 135; (with_reducible refine (begun_any 136 143 ⟨rfl, rfl⟩ e v (mPush e v) ⟨rfl, rfl, rfl, rfl, rfl, rfl⟩ _).mono ?_); intro a w1 hk; have HK := Lib.hid (newM_step (below_al w _) hk); obtain ⟨M, rfl, _, _, _⟩ := hk)
    | fail)
  go_ret
  exact HK.out
theorem runs_succ (k : Nat) (L : List Int) (m : Mc) : runs (k + 1) L m = runs k (stp L m).1 (stp L m).2 := rfl
theorem stp_runs (k : Nat) : ∀ (L : List Int) (m : Mc), stp (runs k L m).1 (runs k L m).2 = runs (k + 1) L m := by
  induction k with
  | zero => intro L m; rfl
  | succ k ih => intro L m; rw [runs_succ, ih, ← runs_succ]
theorem Ws.runs (k : Nat) : ∀ {L : List Int} {m : Mc}, Ws L m → Ws (Dg.runs k L m).1 (Dg.runs k L m).2 := by
  induction k with
  | zero => intro L m h; exact h
  | succ k ih => intro L m h; rw [runs_succ]; exact ih h.stp
attribute [local irreducible] runs

/-- A machine that has gone on for i steps. -/
def On (w0 w : World) (M S D : Nat) (m : Mc) (L : List Int) (i : Nat) (k : Int) : Prop := ∃ c, 0 ≤ c ∧ c ≤ k + i ∧ Mi w0 w M S D (runs i L m).2 (runs i L m).1 c
theorem On.start {w : World} (h : Mi w0 w M S D m L c) (h0 : 0 ≤ c) {k : Int} (hk : c ≤ k) : On w0 w M S D m L 0 k := ⟨c, h0, by omega, by unfold runs; exact h⟩
theorem on_step {w : World} {i : Nat} {k : Int} (h : On w0 w M S D m L i k) (ws : Ws L m) (hk : k + i ≤ 1000000000) :
    Calls Tryz.prog 138 #[ptr M, ptr S] w fun a w' => a = .returned (.bool (decide ((runs (i + 1) L m).2.pc = 0))) ∧ On w0 w' M S D m L (i + 1) k := by
  obtain ⟨c, h0, h1, h⟩ := h
  refine (step_any w h (ws.runs i).wf h0 (by omega)).mono ?_
  rintro a w' ⟨rfl, hm⟩
  rw [stp_runs] at hm ⊢
  have := cst_le (runs i L m).2 c
  exact ⟨rfl, _, by omega, by omega, hm⟩
theorem On.mm {w : World} {i : Nat} {k : Int} (h : On w0 w M S D m L i k) : MM w M (runs i L m).2 := by
  obtain ⟨c, h0, h1, h⟩ := h; exact h.mm

/-- What came of a machine that has run to its end. -/
def Ran (w0 : World) (M S D : Nat) (m : Mc) (L : List Int) (k : Int) (a : Ending) (w' : World) : Prop :=
  a = .returned (.tuple #[.int .i64 (rOf (runs 8 L m).2), .int .u64 (xOf (runs 8 L m).2)]) ∧ ∃ w1, On w0 w1 M S D m L 8 k ∧ Below w1.heap.size w1 w'

end Go.Proofs.YtpocihddecemfaaGreat.Dg
