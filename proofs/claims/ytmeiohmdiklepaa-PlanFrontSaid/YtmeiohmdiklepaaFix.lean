/- The library's Init and Fix over the line of those who wait; the line's next. -/
import Derived.Test.YtmeiohmdiklepaaDown
namespace Go.Proofs.Ytmeiohmdiklepaa
open Go.RowKit
set_option linter.unusedVariables false

theorem down_at (N k n : Nat) (a b : Int) (w : World) (ws : List Wt) (ha : a = (k : Int)) (hb : b = (n : Int)) (h : Line N w ws) (hk : k < ws.length) (hn : ws.length ≤ 100) (hh : HeapFrom (k + 1) ws) (hnn : n = ws.length) :
    Calls Try.prog 23 #[.iface 36 (.pointer (some ⟨N+1, 0, none⟩)), .int .i64 a, .int .i64 b] w (SomeSift N k w ws) := by
  subst ha hb
  exact down_any N k n w ws h hk hn hh hnn

theorem len_at (N n : Nat) (w : World) (ws : List Wt) (h : Line N w ws) (hn : ws.length ≤ 100) (hnn : n = ws.length) :
    Calls Try.prog 41 #[.pointer (some ⟨N+1, 0, none⟩)] w fun e w' => e = .returned (.int .i64 n) ∧ w = w' := by
  subst hnn
  exact len_any N w ws h hn

def SomeDone (N k : Nat) (w : World) (ws : List Wt) (e : Ending) (w' : World) : Prop := e = .returned (.tuple #[]) ∧ Sifted N k w ws w'

theorem up_zero (p : Value) (w : World) : Calls Try.prog 24 #[p, .int .i64 0] w fun e w' => e = .returned (.tuple #[]) ∧ w = w' := by
  go_enter Try.func24, Try.ntmps24
  go_wp2
  refine wp_loop_rounds 1 ?_
  rw [rounds_succ]
  go_wp2
  go_returns
  exact ⟨rfl, rfl⟩

set_option maxHeartbeats 1000000 in
theorem fix_zero (N : Nat) (w : World) (ws : List Wt) (h : Line N w ws) (h0 : 0 < ws.length) (hn : ws.length ≤ 100) (hh : HeapFrom 1 ws) :
    Calls Try.prog 22 #[.iface 36 (.pointer (some ⟨N+1, 0, none⟩)), .int .i64 0] w (SomeDone N 0 w ws) := by
  obtain ⟨n, hnn⟩ : ∃ n, n = ws.length := ⟨_, rfl⟩
  have HN := Lib.hid hnn; clear hnn
  go_enter Try.func22, Try.ntmps22
  go_wp2_with (first
    | (go_at_call 41; (with_reducible refine (len_at N n _ ws h hn HN.out).mono ?_); rintro e w2 ⟨rfl, rfl⟩)
    | (go_at_call 23; (with_reducible refine (down_at N 0 n _ _ _ ws (by omega) (by omega) h h0 hn hh HN.out).mono ?_); rintro e w2 ⟨b, rfl, hS⟩; have HS := Lib.hid hS; clear hS h hh; cases b)
    | (go_at_call 24; (with_reducible refine (up_zero _ _).mono ?_); rintro e w3 ⟨rfl, rfl⟩))
  all_goals go_returns
  all_goals exact ⟨rfl, HS.out⟩

set_option maxHeartbeats 1000000 in
theorem init_any (N : Nat) (w : World) (ws : List Wt) (h : Line N w ws) (hn : ws.length ≤ 100) :
    Calls Try.prog 21 #[.iface 36 (.pointer (some ⟨N+1, 0, none⟩))] w (SomeDone N 0 w ws) := by
  obtain ⟨n, hnn⟩ : ∃ n, n = ws.length := ⟨_, rfl⟩
  have HN := Lib.hid hnn
  have hn' : n ≤ 100 := by omega
  clear hnn
  go_enter Try.func21, Try.ntmps21
  go_wp2_with (go_at_call 41; (with_reducible refine (len_at N n _ ws h hn HN.out).mono ?_); rintro e w2 ⟨rfl, rfl⟩)
  go_loopw [3] (fun v wr => ∃ (m : Nat) (l : List Wt), v = .int .i64 ((m : Int) - 1) ∧ m ≤ n / 2 ∧ Hid (n = l.length) ∧ Line N wr l ∧ w.grownBy wr (some N) ∧ l.Perm ws ∧ HeapFrom m l) (fun v _ => (intOf v + 1).toNat)
  case atStart => exact ⟨n / 2, ws, by go_num, Nat.le_refl _, HN, h, World.grownBy.refl _ _, List.Perm.refl _, by rw [HN.out]; exact heap_half ws⟩
  case round =>
    clear h HN hn
    obtain ⟨m, l, rfl, hm, HN, hL, hG, hP, hH⟩ := hrel
    by_cases hm0 : 1 ≤ m
    · obtain ⟨j, rfl⟩ : ∃ j, m = j + 1 := ⟨m - 1, by omega⟩
      have hp : (0 : Int) ≤ ((j + 1 : Nat) : Int) - 1 := by omega
      go_wp2_with (go_at_call 23; (with_reducible refine (down_at N j n _ _ _ l (by omega) (by omega) hL (by have := HN.out; omega) (by have := HN.out; omega) hH HN.out).mono ?_); rintro e w2 ⟨b, rfl, l', hL', hG', hP', hH'⟩)
      go_roundw
      case rel => exact ⟨j, l', by first | rfl | go_num | (congr 1 <;> omega), by omega, Lib.hid (by rw [hP'.length_eq]; exact HN.out), hL', grown_trans hG hG', hP'.trans hP, hH'⟩
      case measure => (try simp [intOf]); (try omega)
    · obtain rfl : m = 0 := by omega
      go_wp2
      go_returns
      exact ⟨rfl, l, hL, hG, hP, hH⟩

def bump (x : Wt) : Wt := ⟨x.who, x.per, x.due + x.per⟩
theorem flat_due (ws : List Wt) (d : Int) (h : 0 < ws.length) : flat (ws.set 0 ⟨(at_ ws 0).who, (at_ ws 0).per, d⟩) = (flat ws).set 2 (.int .i64 d) := by
  cases ws with
  | nil => simp at h
  | cons a l => rfl
theorem Line.due {N : Nat} {w : World} {ws : List Wt} (h : Line N w ws) (h0 : 0 < ws.length) (d : Int) :
    Line N (w.setCell ⟨N, 2, none⟩ (.int .i64 d)) (ws.set 0 ⟨(at_ ws 0).who, (at_ ws 0).per, d⟩) ∧ w.grownBy (w.setCell ⟨N, 2, none⟩ (.int .i64 d)) (some N) := by
  have a := h.row.stored 2 (.int .i64 d)
  have g := a.2
  refine ⟨⟨by rw [flat_due ws d h0, List.length_set]; exact a.1, Nat.lt_of_lt_of_le h.lt g.size, ?_, ?_⟩, g⟩
  · rw [List.length_set]; exact (World.cell?_of_block (g.block (N + 1) h.lt (by simp))).trans h.c0
  · exact (World.cell?_of_block (g.block (N + 1) h.lt (by simp))).trans h.c1
theorem heap_bump {ws : List Wt} (h : HeapFrom 0 ws) (x : Wt) : HeapFrom 1 (ws.set 0 x) := fun j h0 h1 h2 => by
  have := h j h0 (by simpa using h1) (Nat.zero_le _)
  have e : ∀ p, 0 < p → at_ (ws.set 0 x) p = at_ ws p := fun p hp => by simp [at_, List.getD, Nat.ne_of_lt hp]
  rw [e _ (by omega), e _ (by omega)]
  exact this

/-- Whose turn it was, and what is left of the line. -/
def SomeNext (N : Nat) (w : World) (ws : List Wt) (e : Ending) (w' : World) : Prop :=
  e = .returned (.int .i64 (at_ ws 0).who) ∧ Sifted N 0 w (ws.set 0 (bump (at_ ws 0))) w'

set_option maxHeartbeats 1000000 in
theorem next_any (N : Nat) (w : World) (ws : List Wt) (h : Line N w ws) (h0 : 0 < ws.length) (hn : ws.length ≤ 100) (hh : HeapFrom 0 ws)
    (b0 : 0 ≤ (at_ ws 0).due) (b1 : (at_ ws 0).due ≤ 1000000) (b2 : 0 ≤ (at_ ws 0).per) (b3 : (at_ ws 0).per ≤ 1000) :
    Calls Try.prog 18 #[.pointer (some ⟨N+1, 0, none⟩)] w (SomeNext N w ws) := by
  obtain ⟨n, hnn⟩ : ∃ n, n = ws.length := ⟨_, rfl⟩
  have c0 := h.c0
  rw [← hnn] at c0
  obtain ⟨x0, x1, x2⟩ := h.cell h0
  have fz : w.frozen? ⟨N, 2, none⟩ = false := h.row.frozenAt 2
  have hD := h.due h0 ((at_ ws 0).due + (at_ ws 0).per)
  have hB := heap_bump hh (bump (at_ ws 0))
  have hl : (ws.set 0 (bump (at_ ws 0))).length = n := by simp [hnn]
  obtain ⟨ww, pp, dd, hx⟩ : ∃ a b c, at_ ws 0 = ⟨a, b, c⟩ := ⟨_, _, _, rfl⟩
  unfold SomeNext
  unfold bump at hB hl ⊢
  unfold at_ at hx hB hl hD b0 b1 b2 b3 ⊢
  rw [hx] at x0 x1 x2 b0 b1 b2 b3 hB hl hD ⊢
  generalize ws.set 0 (⟨ww, pp, dd + pp⟩ : Wt) = ws2 at hB hl hD ⊢
  have hn1 : 0 < n := by omega
  have hn2 : n ≤ 100 := by omega
  have x0 : w.cell? ⟨N, 0, none⟩ = some (.int .i64 ww) := x0
  have x1 : w.cell? ⟨N, 1, none⟩ = some (.int .i64 pp) := by simpa using x1
  have x2 : w.cell? ⟨N, 2, none⟩ = some (.int .i64 dd) := by simpa using x2
  simp only at b0 b1 b2 b3
  have HL := Lib.hid hl
  have HD := Lib.hid hD
  clear hl hD hx hnn h h0 hn hh
  go_enter Try.func18, Try.ntmps18
  go_wp2
  go_region
  have hline : Line N (w.setCell ⟨N, 2, none⟩ (.int .i64 (dd + pp))).drew ws2 := HD.out.1.drew
  have hg : w.grownBy (w.setCell ⟨N, 2, none⟩ (.int .i64 (dd + pp))).drew (some N) := grown_trans HD.out.2 (grown_drew _ _)
  generalize (w.setCell ⟨N, 2, none⟩ (.int .i64 (dd + pp))).drew = w2 at hline hg ⊢
  clear c0 x0 x1 x2 fz
  go_wp2_with (go_at_call 22; (with_reducible refine (fix_zero N _ ws2 hline (by have := HL.out; omega) (by have := HL.out; omega) hB).mono ?_); rintro e w3 ⟨rfl, hS⟩; have HS := Lib.hid hS; clear hS hline)
  go_ret
  obtain ⟨l, r1, r2, r3, r4⟩ := HS.out
  exact ⟨rfl, l, r1, grown_trans hg r2, r3, r4⟩
end Go.Proofs.Ytmeiohmdiklepaa
