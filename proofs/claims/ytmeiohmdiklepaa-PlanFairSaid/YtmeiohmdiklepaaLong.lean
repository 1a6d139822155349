/- The law that nobody waits long, walked. -/
import Derived.Test.YtmeiohmdiklepaaParts
import Derived.Test.YtmeiohmdiklepaaFair
namespace Go.Proofs.Ytmeiohmdiklepaa
open Go.RowKit
set_option linter.unusedVariables false

/-- What a slice of integers that came in holds, of whatever kind. -/
theorem cells_row {k : IntKind} {w : World} {a : Option Addr} {len cap : Nat} {z : List Int} (h : IsRow k w a len cap z) :
    len ≤ cap ∧ cap ≤ maxLen ∧ (a = none → len = 0) ∧ ∀ j, j < len → ∃ b off, a = some ⟨b, off, none⟩ ∧ b < w.heap.size ∧ w.cell? ⟨b, off + j, none⟩ = some (.int k (z.getD j 0)) ∧ (Lit.int k (z.getD j 0)).wf = true := by
  rcases h with ⟨rfl, rfl, rfl, rfl⟩ | ⟨x, rfl, h1, h2, h3, h4, h5⟩
  · exact ⟨Nat.le_refl _, Nat.zero_le _, fun _ => rfl, fun j hj => by omega⟩
  · refine ⟨h1, h2, (fun e => by cases e), fun j hj => ?_⟩
    have c0 := h4 0 (by omega)
    obtain ⟨b, off, sp⟩ := x
    have hs : sp = none := by
      cases sp with
      | none => rfl
      | some s =>
        exfalso
        simp only [Addr.add, if_true] at c0
        unfold World.cell? at c0
        simp only [Option.isSome_some, if_true] at c0
        split at c0 <;> simp at c0
    subst hs
    refine ⟨b, off, rfl, ?_, ?_, ?_⟩
    · have : w.cell? ⟨b, off, none⟩ = some (.int k (z.getD 0 0)) := by simpa [Addr.add] using c0
      unfold World.cell? at this
      by_cases hb : b < w.heap.size
      · exact hb
      · rw [Array.getElem?_eq_none (by omega : w.heap.size ≤ b)] at this
        cases this
    · have c := h4 j (by omega)
      have e : (⟨b, off, none⟩ : Addr).add j = ⟨b, off + j, none⟩ := by
        unfold Addr.add
        split
        · rename_i e; subst e; rfl
        · rfl
      rw [e] at c
      exact c
    · refine h5 _ ?_
      have hj2 : j < z.length := by omega
      rw [List.getD, List.getElem?_eq_getElem hj2]
      exact List.getElem_mem _

/-- The periods that the law makes of bytes. -/
def perOf (zs : List Int) (L : Nat) : List Int := (List.range L).map fun i => zs.getD i 0 % 40 + 1
theorem per_len (zs : List Int) (L : Nat) : (perOf zs L).length = L := by simp [perOf]
theorem per_get (zs : List Int) (L i : Nat) (h : i < L) : (perOf zs L).getD i 0 = zs.getD i 0 % 40 + 1 := by
  simp [perOf, List.getD, h]
theorem per_succ (zs : List Int) (L : Nat) : perOf zs (L + 1) = perOf zs L ++ [zs.getD L 0 % 40 + 1] := by
  simp [perOf, List.range_succ]
/-- The longest of the first k. -/
def mostOf (zs : List Int) : Nat → Int
  | 0 => 1
  | k + 1 => imax (mostOf zs k) (zs.getD k 0 % 40 + 1)
theorem most_bd (zs : List Int) : ∀ k, 1 ≤ mostOf zs k ∧ mostOf zs k ≤ 40
  | 0 => by unfold mostOf; omega
  | k + 1 => by have := most_bd zs k; unfold mostOf imax; split <;> omega
theorem most_ge (zs : List Int) : ∀ k i, i < k → zs.getD i 0 % 40 + 1 ≤ mostOf zs k
  | 0, i, h => by omega
  | k + 1, i, h => by
    unfold mostOf imax
    by_cases e : i = k
    · subst e; split <;> omega
    · have := most_ge zs k i (by omega)
      split <;> omega
/-- How wide the law has the stretches be. -/
def wideTo (zs : List Int) (most : Int) (k : Nat) : Int := 1 + sumTo (fun i => share most (zs.getD i 0 % 40 + 1)) k
theorem share_bd {most p : Int} (h1 : 1 ≤ p) (h2 : p ≤ 40) (h3 : 1 ≤ most) (h4 : most ≤ 40) : 0 ≤ share most p ∧ share most p ≤ 80 := by
  unfold share
  refine ⟨Int.ediv_nonneg (by omega) (by omega), ?_⟩
  have h5 := Int.ediv_le_self (a := most + p - 1) p (by omega)
  omega
theorem wide_bd (zs : List Int) {most : Int} (h3 : 1 ≤ most) (h4 : most ≤ 40) : ∀ k : Nat, 1 ≤ wideTo zs most k ∧ wideTo zs most k ≤ 1 + 80 * (k : Int)
  | 0 => by unfold wideTo sumTo; omega
  | k + 1 => by
    have h := wide_bd zs h3 h4 k
    have b := share_bd (most := most) (p := zs.getD k 0 % 40 + 1) (by omega) (by omega) h3 h4
    unfold wideTo at *
    simp only [sumTo]
    omega

theorem fair_law (zs : List Int) (L n : Nat) : IsWin (outL (perOf zs L) n) (L : Int) (wideTo zs (mostOf zs L) L) := by
  have hb : ∀ i, i < L → bnd ((perOf zs L).getD i 0) = zs.getD i 0 % 40 + 1 := fun i hi => by
    rw [per_get zs L i hi]; unfold bnd; omega
  have hw : wideTo zs (mostOf zs L) L = 1 + sumTo (fun i => share (mostOf zs L) (bnd ((perOf zs L).getD i 0))) (perOf zs L).length := by
    unfold wideTo
    rw [per_len]
    congr 1
    exact sum_same _ fun i hi => by rw [hb i hi]
  have h1 := (wide_bd zs (most_bd zs L).1 (most_bd zs L).2 L).1
  have := fair (ps := perOf zs L) (n := n) (most := mostOf zs L) (wide := wideTo zs (mostOf zs L) L) (fun i hi => by
    rw [per_len] at hi
    rw [hb i hi]; exact most_ge zs L i hi) hw h1
  rw [per_len] at this
  exact this

theorem reads_owned {B L c : Nat} {w : World} {A : Option Addr} {l : List Int} (hL : L = l.length) (h : w.ownsRow B 3 1 (.slice A L c) L (l.map (Value.int .i64))) : Reads w A l := by
  subst hL
  obtain ⟨A3, c3, e, hr⟩ := reads_own h
  simp only [Value.slice.injEq] at e
  obtain ⟨rfl, _, rfl⟩ := e
  exact hr

set_option maxHeartbeats 4000000 in
set_option maxRecDepth 100000 in
theorem walkFair (a0 : Option Addr) (len0 cap0 : Nat) (z0 : List Int) (a1 : Int) (w : World) (w0 : IsRow .u8 w a0 len0 cap0 z0) (w1 : (Lit.int .u8 a1).wf = true) :
    Calls Try.prog 5 #[.slice a0 len0 cap0, .int .u8 a1] w fun e w' => e = .returned (.bool true) ∧ Below w.heap.size w w' := by
  obtain ⟨h1, h2, _, hR⟩ := cells_row w0
  unfold maxLen at h2
  have b1 := wf8 w1
  clear w0 w1
  obtain ⟨m, rfl⟩ : ∃ m : Nat, a1 = m := ⟨a1.toNat, by omega⟩
  obtain ⟨L, hL⟩ : ∃ L, L = len0 := ⟨_, rfl⟩
  subst hL
  have HR := Lib.hid hR
  clear hR
  have hb : Below w.heap.size w w := Below.refl _ _
  by_cases c1 : 8 < L
  · go_enter Try.func5, Try.ntmps5
    go_wp2_with (go_at_call 9; (with_reducible refine (awake_true _).mono ?_); rintro e w1 ⟨rfl, hb1⟩)
    go_ret
    exact ⟨rfl, hb1⟩
  by_cases c2 : L = 0
  · subst c2
    go_enter Try.func5, Try.ntmps5
    go_wp2_with (go_at_call 9; (with_reducible refine (awake_true _).mono ?_); rintro e w1 ⟨rfl, hb1⟩)
    go_ret
    exact ⟨rfl, hb1⟩
  have e1 : (L == 0) = false := by rw [beq_eq_false_iff_ne]; omega
  have e2 : ((L : Int) == 0) = false := by rw [beq_eq_false_iff_ne]; omega
  have hL1 : 1 ≤ L := by omega
  clear c2
  obtain ⟨i0, hi, hz0, hz1, hz2⟩ := info_parts info3
  go_enter Try.func5, Try.ntmps5
  go_wp2_with (go_at_call 9; (with_reducible refine (awake_true _).mono ?_); rintro e w1 ⟨rfl, hb1⟩; have hb := below_step hb hb.size hb1; clear hb1)
  clear e1 e2
  go_loopw [6, 7, 8] (fun v a i wr => ∃ (k : Nat) (A : Option Addr) (c : Nat), k ≤ L ∧ i = .int .i64 k ∧ a = .int .i64 (mostOf z0 k) ∧ v = .slice A k c ∧ wr.ownsRow w.heap.size 3 1 (.slice A k c) k ((perOf z0 k).map (Value.int .i64)) ∧ Below w.heap.size w wr) (fun _ _ i _ => L - (intOf i).toNat)
  case atStart => exact ⟨0, none, 0, Nat.zero_le _, rfl, rfl, rfl, World.ownsRow_nil _ _ _ _, hb⟩
  case round =>
    clear hb
    obtain ⟨k, A, c, hk, rfl, rfl, rfl, hown, hb⟩ := hrel
    have hmb := most_bd z0 k
    by_cases hkL : k < L
    · obtain ⟨b, off, rfl, hlt, hc, hwf⟩ := HR.out k hkL
      have hx8 := wf8 hwf
      have hcell := (hb.cell (p := ⟨b, off + k, none⟩) hlt).trans hc
      have hps := per_succ z0 k
      have hms : mostOf z0 (k + 1) = imax (mostOf z0 k) (z0.getD k 0 % 40 + 1) := rfl
      obtain ⟨x, hx⟩ : ∃ x, x = z0.getD k 0 := ⟨_, rfl⟩
      rw [← hx] at hcell hx8 hps hms
      have HPS := Lib.hid hps
      have HMS := Lib.hid hms
      clear hx hc hwf hps hms
      have hx40 : 0 ≤ x % 40 ∧ x % 40 < 40 := by omega
      have hsz := hb.size
      generalize mostOf z0 k = mo at hmb HMS ⊢
      go_wp2_with (at_builtin; refine wpList_append_own _ rfl _ _ 22 rfl w.heap.size 3 i0 (.int .i64 0) 1 8 Try.underlying22 hi hz0 hz1 hz2 rfl (by decide) _ _ _ rfl (hown.alloc _) ⟨wr.heap.size, 0, none⟩ 1 1 [.int .i64 (x % 40 + 1)] rfl rfl ?c1 ?c2 ?c3 ?c4 ?c5 ?_)
      case c1 =>
        intro j u hj
        match j, hj with
        | 0, hj => simp at hj; subst hj; simp [Addr.add]
      case c2 => intro u hu; simp at hu; subst hu; rfl
      case c3 => unfold maxLen; omega
      case c4 => omega
      case c5 => simp; omega
      intro v' w2 hown' hgrow _
      have hb2 := (hb.alloc hb.size (.cells #[.int .i64 (x % 40 + 1)] 3)).grown hgrow (by simp; omega) (fun r hr => (hown.lt r hr).1)
      have hown2 : w2.ownsRow w.heap.size 3 1 v' (perOf z0 (k + 1)).length ((perOf z0 (k + 1)).map (Value.int .i64)) := by rw [per_len, HPS.out, List.map_append]; exact hown'
      obtain ⟨A2, c2, rfl, hR2⟩ := reads_own hown2
      rw [per_len] at hown2 ⊢
      obtain ⟨g, o2, rfl, _, hcc⟩ := hR2 (by rw [per_len]; omega)
      have hcell2 : w2.cell? ⟨g, o2 + k, none⟩ = some (.int .i64 (x % 40 + 1)) := (hcc k (by rw [per_len]; omega)).trans (by rw [HPS.out]; simp [List.getD, per_len])
      clear hcc hown' hgrow hown hb hcell
      go_wp2
      go_roundw
      case rel => exact ⟨k + 1, _, c2, by omega, by go_num, by rw [HMS.out], rfl, hown2, hb2⟩
      case measure => simp [intOf]; omega
    · obtain rfl : k = L := by omega
      obtain ⟨mo, hmo⟩ : ∃ mo, mo = mostOf z0 k := ⟨_, rfl⟩
      rw [← hmo] at hmb ⊢
      have HMO := Lib.hid hmo
      have hcells : ∀ j, j < k → ∃ g o2, A = some ⟨g, o2, none⟩ ∧ wr.cell? ⟨g, o2 + j, none⟩ = some (.int .i64 (z0.getD j 0 % 40 + 1)) := fun j hj => by
        obtain ⟨g, o2, e, _, hcc⟩ := reads_owned (per_len z0 k).symm hown (by rw [per_len]; omega)
        exact ⟨g, o2, e, by rw [← per_get z0 k j hj]; exact hcc j (by rw [per_len]; omega)⟩
      have HCS := Lib.hid hcells
      have hP : Reads wr A (perOf z0 k) := reads_owned (per_len z0 k).symm hown
      clear hmo hcells hown hi hz0 hz1 hz2
      go_wp2
      go_loopw [9, 10] (fun v i wr2 => ∃ (j q : Nat), j ≤ k ∧ i = .int .i64 j ∧ v = .int .i64 (wideTo z0 mo j) ∧ wr2 = wr.drewN q) (fun _ i _ => k - (intOf i).toNat)
      case atStart => exact ⟨0, 0, Nat.zero_le _, rfl, rfl, rfl⟩
      case round =>
        obtain ⟨j, q, hj, rfl, rfl, rfl⟩ := hrel
        have hwb := wide_bd z0 hmb.1 hmb.2 j
        have hws : wideTo z0 mo (j + 1) = wideTo z0 mo j + share mo (z0.getD j 0 % 40 + 1) := by unfold wideTo; simp only [sumTo]; omega
        have hwb2 := wide_bd z0 hmb.1 hmb.2 (j + 1)
        by_cases hjk : j < k
        · obtain ⟨g, o2, rfl, hcell⟩ := HCS.out j hjk
          have hxb : 1 ≤ z0.getD j 0 % 40 + 1 ∧ z0.getD j 0 % 40 + 1 ≤ 40 := by omega
          rw [hws] at hwb2
          have HWS := Lib.hid hws
          clear hws
          obtain ⟨x, hx⟩ : ∃ x, x = z0.getD j 0 % 40 + 1 := ⟨_, rfl⟩
          rw [← hx] at hcell hxb hwb2
          have HX := Lib.hid hx
          clear hx
          obtain ⟨wd, hwd⟩ : ∃ wd, wd = wideTo z0 mo j := ⟨_, rfl⟩
          rw [← hwd] at hwb hwb2 ⊢
          have HWD := Lib.hid hwd
          clear hwd
          have hshb := share_bd hxb.1 hxb.2 hmb.1 hmb.2
          have hj0 : (0 : Int) ≤ (j : Int) := by omega
          have hj1 : (j : Int) < (k : Int) := by omega
          have hx0 : (x == 0) = false := by rw [beq_eq_false_iff_ne]; omega
          have s1 : IntKind.i64.wrap (mo + x) = mo + x := IntWalk.i64_in _ (by omega)
          have s2 : IntKind.i64.wrap (mo + x - 1) = mo + x - 1 := IntWalk.i64_in _ (by omega)
          have s3 : (mo + x - 1).tdiv x = share mo x := by unfold share; exact Int.tdiv_eq_ediv_of_nonneg (by omega)
          have s4 : IntKind.i64.wrap (share mo x) = share mo x := IntWalk.i64_in _ (by omega)
          have s5 : IntKind.i64.wrap (wd + share mo x) = wd + share mo x := IntWalk.i64_in _ (by omega)
          go_wp2
          go_quiet (fail)
          clear s1 s2 s3 s4 s5
          go_wp2
          go_roundw
          case rel => exact ⟨j + 1, _, by omega, by go_num, by rw [HWS.out, ← HX.out, ← HWD.out], rfl⟩
          case measure => simp [intOf]; omega
        · obtain rfl : j = k := by omega
          have hfair := fair_law z0 j m
          rw [← HMO.out] at hfair
          have hord : orderL (perOf z0 j) m = outL (perOf z0 j) m := by unfold orderL; rw [per_len, if_neg (by omega)]; simp
          have hol : m = (outL (perOf z0 j) m).length := (out_len _ _).symm
          obtain ⟨os, hos⟩ : ∃ os, os = outL (perOf z0 j) m := ⟨_, rfl⟩
          rw [← hos] at hfair hord hol
          obtain ⟨wd, hwd⟩ : ∃ wd, wd = wideTo z0 mo j := ⟨_, rfl⟩
          rw [← hwd] at hwb hfair ⊢
          have hP2 : Reads (wr.drewN q) A (perOf z0 j) := hP
          have hb2 : Below w.heap.size w (wr.drewN q) := below_drewN hb q
          generalize wr.drewN q = wq at hP2 hb2 ⊢
          have HF := Lib.hid hfair
          have HO := Lib.hid hord
          have HOL := Lib.hid hol
          have HPL := Lib.hid (per_len z0 j).symm
          clear hfair hord hol hos hwd hws hwb2 hP
          go_wp2_with (first
            | (go_at_call 11; (with_reducible refine (order_at _ _ _ (perOf z0 j) _ os m _ HPL.out hP2 (by omega) (by omega) HO.out HOL.out).mono ?_); rintro e w3 ⟨A', rfl, hRA, hb1⟩; have hb2 := below_step hb2 hb2.size hb1; clear hb1)
            | (go_at_call 13; (with_reducible refine (win_yes _ _ _ os _ _ _ HOL.out hRA (by omega) (by omega) (by omega) HF.out).mono ?_); rintro e w4 ⟨rfl, hb1⟩; have hb2 := below_step hb2 hb2.size hb1; clear hb1))
          go_ret
          exact ⟨rfl, hb2⟩
end Go.Proofs.Ytmeiohmdiklepaa
