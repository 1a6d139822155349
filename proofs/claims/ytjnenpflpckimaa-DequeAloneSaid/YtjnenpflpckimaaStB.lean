/- The steps of a deque's machine, walked: an entry's place, and the steps that compare the ends. -/
import Derived.Test.YtjnenpflpckimaaStA
namespace Go.Proofs.Ytjnenpflpckimaa
open Go.RowKit
set_option linter.unusedVariables false
variable {w0 : World} {M S D : Nat} {e : En} {nx : Value} {t b v r x : Int} {L : List Int} {c : Int}

def entOf (e : En) (n : Int) : Int := e.ent + n % roomOf e
/-- A deque's entries stand where places are. -/
structure EnOk (e : En) : Prop where
  lo : -1000000000 ≤ e.ent
  hi : e.ent ≤ 1000000000
  room : e.room ≤ 1000000000
theorem EnOk.rm (h : EnOk e) : 1 ≤ roomOf e ∧ roomOf e ≤ 1000000000 := by
  have := h.room
  unfold roomOf; split <;> omega

set_option maxHeartbeats 1000000 in
theorem place_any (n : Int) (h : EnOk e) (hn : 0 ≤ n) (w : World) :
    Calls Try.prog 45 #[.agg #[.int .i64 e.top, .int .i64 e.bot, .int .i64 e.ent, .int .i64 (roomOf e)], .int .u64 n] w fun a w' => a = .returned (.int .i64 (entOf e n)) ∧ Below w.heap.size w w' := by
  obtain ⟨r0, r1⟩ := h.rm
  have h0 := h.lo
  have h1 := h.hi
  obtain ⟨R, hR⟩ : ∃ R, R = roomOf e := ⟨_, rfl⟩
  obtain ⟨z, hz⟩ : ∃ z, z = entOf e n := ⟨_, rfl⟩
  have hz2 := hz
  unfold entOf at hz2
  rw [← hz]
  rw [← hR] at hz2 r0 r1 ⊢
  have m0 : 0 ≤ n % R := Int.emod_nonneg _ (by omega)
  have m1 : n % R < R := Int.emod_lt_of_pos _ (by omega)
  have e1 : IntKind.u64.wrap R = R := by rw [IntKind.wrap_u64]; omega
  have e2 : n.tmod R = n % R := Int.tmod_eq_emod_of_nonneg hn
  obtain ⟨y, hy⟩ : ∃ y, y = n % R := ⟨_, rfl⟩
  rw [← hy] at e2 hz2 m0 m1
  have e3 : IntKind.i64.wrap y = y := by rw [IntKind.wrap_i64]; omega
  have e5 : IntKind.u64.wrap y = y := by rw [IntKind.wrap_u64]; omega
  have e4 : IntKind.i64.wrap (e.ent + y) = z := by rw [IntKind.wrap_i64]; omega
  have hne : (R == 0) = false := by rw [beq_eq_false_iff_ne]; omega
  have hne2 : ¬ R = 0 := by omega
  clear hz hz2 hR hy
  go_enter Try.func45, Try.ntmps45
  go_wp2
  go_quiet (fail)
  go_wp2
  go_ret
  exact ⟨rfl, below_drewN ((Below.refl _ _).alloc (Nat.le_refl _) _) _⟩

/-- What of a machine is read in a step. -/
theorem Mst.cs {w : World} (h : Mst w0 w M S D e nx t b v r x L c) : w.cell? ⟨M, 0, none⟩ = some (.int .i64 e.top) ∧ w.cell? ⟨M, 1, none⟩ = some (.int .i64 e.bot) ∧ w.cell? ⟨M, 2, none⟩ = some (.int .i64 e.ent) ∧ w.cell? ⟨M, 3, none⟩ = some (.int .i64 (roomOf e)) ∧ w.cell? ⟨M, 5, none⟩ = some (.int .u64 t) ∧ w.cell? ⟨M, 6, none⟩ = some (.int .u64 b) :=
  ⟨h.c0, h.c1, h.c2, h.c3, h.c5, h.c6⟩

set_option maxHeartbeats 1000000 in
theorem seeRoom_any (w : World) (h : Mst w0 w M S D e nx t b v r x L c) (h0 : 0 ≤ c) (h1 : c ≤ 1000000000) :
    Calls Try.prog 35 #[ptr M, ptr S] w fun a w' => a = .returned (.tuple #[]) ∧
      Mst w0 w' M S D e (if roomOf e ≤ aheadOf b (ldv L e.top) then .nilFunc else fnv 40 M) (ldv L e.top) b v (if roomOf e ≤ aheadOf b (ldv L e.top) then 2 else r) (if roomOf e ≤ aheadOf b (ldv L e.top) then 0 else x) L (c + 1) := by
  have hmf : ∀ (fn : Fn) (first cap : Array Value) (w : World), (Instr.makeFunc fn first cap).run Try.prog w = .ok (.func fn first cap) w := fun _ _ _ _ => rfl
  have c1 := h.c0
  have H := Lib.hid h; clear h
  obtain ⟨T, hT⟩ : ∃ T, T = ldv L e.top := ⟨_, rfl⟩
  obtain ⟨A, hA⟩ : ∃ A, A = aheadOf b T := ⟨_, rfl⟩
  rw [← hT, ← hA]
  have HT := Lib.hid hT; have HA := Lib.hid hA; clear hT hA
  have HR : ∀ B : Bool, decide (roomOf e ≤ A) = B → Calls Try.prog 35 #[ptr M, ptr S] w fun a w' => a = .returned (.tuple #[]) ∧
      Mst w0 w' M S D e (if B = true then .nilFunc else fnv 40 M) T b v (if B = true then 2 else r) (if B = true then 0 else x) L (c + 1) := by
    intro B hB
    go_enter Try.func35, Try.ntmps35
    go_wp2_with (first
      | (go_at_call 20; (with_reducible refine (load_any _ _ H.out.st h0 h1).mono ?_); rintro r w1 ⟨rfl, hk⟩; rw [← HT.out]; have HK := Lib.hid (H.out.left hk); have c5 := HK.out.c5; have f5 := HK.out.f 5; have HL := Lib.hid (HK.out.p5 T); clear hk)
      | fail)
    obtain ⟨W, hW, hm⟩ : ∃ W, W = _ ∧ Mst w0 W M S D e nx T b v r x L (c + 1) := ⟨_, rfl, HL.out⟩
    rw [← hW]
    obtain ⟨q0, q1, q2, q3, q5, q6⟩ := hm.cs
    have HM := Lib.hid hm; have HMD := Lib.hid hm.drew
    clear hm HL HK c5 f5 hW
    go_region_held3 (fun w' => w'.cell? ⟨M, 0, none⟩ = some (.int .i64 e.top) ∧ w'.cell? ⟨M, 1, none⟩ = some (.int .i64 e.bot) ∧ w'.cell? ⟨M, 2, none⟩ = some (.int .i64 e.ent) ∧ w'.cell? ⟨M, 3, none⟩ = some (.int .i64 (roomOf e)) ∧ w'.cell? ⟨M, 5, none⟩ = some (.int .u64 T) ∧ w'.cell? ⟨M, 6, none⟩ = some (.int .u64 b))
      (first | exact HN.out.cs | exact HMD.out.cs | go_keep)
      (first
        | (go_at_call 38; (with_reducible refine (ahead_walk _ _ _).mono ?_); rintro r w3 ⟨rfl, hb⟩; rw [← HA.out]; have HN := Lib.hid (HMD.out.step hb); clear hb; have c4 := HN.out.c4; have f4 := HN.out.f 4; have HE := Lib.hid (HN.out.p4 (fnv 40 M)))
        | fail)
    clear q0 q1 q2 q3 q5 q6 HM HMD
    cases B
    · go_wp2
      go_returns
      exact ⟨rfl, HE.out⟩
    · go_wp2_with (first
        | (go_at_call 39; (with_reducible refine (finish_any 2 0 _ HN.out).mono ?_); rintro r w4 ⟨rfl, hz⟩)
        | fail)
      go_returns
      exact ⟨rfl, hz⟩
  by_cases hc : roomOf e ≤ A
  · simpa [hc] using HR true (by simpa using hc)
  · simpa [hc] using HR false (by simpa using hc)
end Go.Proofs.Ytjnenpflpckimaa
