/- A deque's machine in memory stands for one over words; each of its steps is that one's. -/
import Derived.Test.YtjnenpflpckimaaStC
import Derived.Test.YtjnenpflpckimaaStD
import Derived.Test.YtjnenpflpckimaaStE
import Derived.Test.YtjnenpflpckimaaStG
import Derived.Test.YtjnenpflpckimaaDqTv
namespace Go.Proofs.Ytjnenpflpckimaa
open Go.RowKit
set_option linter.unusedVariables false
set_option linter.unusedSimpArgs false

theorem ldv_eq (L : List Int) (a : Int) : ldv L a = ldq L a := by
  unfold ldv ldq inB; simp
theorem ptv_eq (L : List Int) (a v : Int) : ptv L a v = ptq L a v := by
  unfold ptv ptq inB; simp
theorem ahead_eq (a b : Int) : aheadOf a b = ahead a b := rfl
theorem swB_iff (L : List Int) (a o : Int) : swB L a o = true ↔ ((0 ≤ a ∧ a < L.length) ∧ L.getD a.toNat 0 = o) := by
  unfold swB inB; simp
theorem swv_eq (L : List Int) (a o v : Int) : swv L a o v = if (0 ≤ a ∧ a < L.length) ∧ L.getD a.toNat 0 = o then ptq L a v else L := by
  unfold swv
  by_cases h : (0 ≤ a ∧ a < L.length) ∧ L.getD a.toNat 0 = o
  · rw [if_pos ((swB_iff ..).2 h), if_pos h]; unfold ptq; rw [if_pos h.1]
  · rw [if_neg (fun h2 => h ((swB_iff ..).1 h2)), if_neg h]

/-- The function that does a machine's next step. -/
def nfn (m : Mc) : Nat :=
  if m.kind = 1 then (if m.pc = 1 then 30 else if m.pc = 2 then 35 else if m.pc = 3 then 40 else 46)
  else if m.kind = 2 then (if m.pc = 1 then 31 else if m.pc = 2 then 36 else if m.pc = 3 then 41 else if m.pc = 4 then 48 else if m.pc = 5 then 50 else if m.pc = 6 then (if m.won = true then 52 else 47) else 47)
  else (if m.pc = 1 then 32 else if m.pc = 2 then 37 else if m.pc = 3 then 42 else 49)
def nxt (M : Nat) (m : Mc) : Value := if m.pc = 0 then .nilFunc else fnv (nfn m) M
def rOf (m : Mc) : Int := if m.pc = 0 then m.out else 0
def xOf (m : Mc) : Int := if m.pc = 0 then m.w else 0
/-- A machine in memory. -/
def Mi (w0 w : World) (M S D : Nat) (m : Mc) (L : List Int) (c : Int) : Prop :=
  ∃ t b v, Mst w0 w M S D m.e (nxt M m) t b v (rOf m) (xOf m) L c ∧ (m.pc ≠ 0 → t = m.t ∧ b = m.b ∧ v = m.w)
/-- What it knows are words. -/
structure Wf (m : Mc) : Prop where
  ok : EnOk m.e
  b : 0 ≤ m.b
  t : 0 ≤ m.t

section
variable {w0 w w' : World} {M S D : Nat} {m : Mc} {L : List Int} {c : Int}
theorem Mi.of {m' : Mc} {t b v r x : Int} {nx : Value} (h : Mst w0 w M S D m'.e nx t b v r x L c) (h1 : nx = nxt M m') (h2 : r = rOf m') (h3 : x = xOf m') (h4 : m'.pc ≠ 0 → t = m'.t ∧ b = m'.b ∧ v = m'.w) : Mi w0 w M S D m' L c := by
  subst h1 h2 h3; exact ⟨t, b, v, h, h4⟩
theorem Mi.at (h : Mi w0 w M S D m L c) (hp : m.pc ≠ 0) : Mst w0 w M S D m.e (fnv (nfn m) M) m.t m.b m.w 0 0 L c := by
  obtain ⟨t, b, v, h, h2⟩ := h
  obtain ⟨rfl, rfl, rfl⟩ := h2 hp
  simpa [nxt, rOf, xOf, hp] using h
theorem Mi.no (h : Mi w0 w M S D m L c) (hp : m.pc = 0) : ∃ t b v, Mst w0 w M S D m.e .nilFunc t b v m.out m.w L c := by
  obtain ⟨t, b, v, h, h2⟩ := h
  exact ⟨t, b, v, by simpa [nxt, rOf, xOf, hp] using h⟩

theorem next_push (h : Mi w0 w M S D m L c) (hp : m.pc ≠ 0) (hk : m.kind = 1) (wf : Wf m) (h0 : 0 ≤ c) (h1 : c ≤ 1000000000) :
    Calls Try.prog (nfn m) #[ptr M, ptr S] w fun a w' => a = .returned (.tuple #[]) ∧ Mi w0 w' M S D (stp L m).2 (stp L m).1 (c + 1) := by
  have h' := h.at hp
  have es : stp L m = pushS L m := by simp [stp, hp, hk]
  rw [es]
  unfold pushS
  by_cases p1 : m.pc = 1
  · rw [if_pos p1, show nfn m = 30 by simp [nfn, hk, p1]]
    refine (seeBottom_any _ h' h0 h1).mono ?_
    rintro a w1 ⟨rfl, k⟩
    rw [ldv_eq] at k
    exact ⟨rfl, Mi.of (m' := { m with pc := 2, b := ldq L m.e.bot }) k (by simp [nxt, nfn, hk]) (by simp [rOf]) (by simp [xOf]) (fun _ => ⟨rfl, rfl, rfl⟩)⟩
  rw [if_neg p1]
  by_cases p2 : m.pc = 2
  · rw [if_pos p2, show nfn m = 35 by simp [nfn, hk, p2]]
    refine (seeRoom_any _ h' h0 h1).mono ?_
    rintro a w1 ⟨rfl, k⟩
    rw [ldv_eq, ahead_eq] at k
    refine ⟨rfl, ?_⟩
    by_cases hc : roomOf m.e ≤ ahead m.b (ldq L m.e.top)
    · rw [if_pos hc]
      simp only [if_pos hc] at k
      exact Mi.of (m' := fin m 2 0) k (by simp [nxt, fin]) (by simp [rOf, fin]) (by simp [xOf, fin]) (fun hn => absurd rfl hn)
    · rw [if_neg hc]
      simp only [if_neg hc] at k
      exact Mi.of (m' := { m with pc := 3, t := ldq L m.e.top }) k (by simp [nxt, nfn, hk]) (by simp [rOf]) (by simp [xOf]) (fun _ => ⟨rfl, rfl, rfl⟩)
  rw [if_neg p2]
  by_cases p3 : m.pc = 3
  · rw [if_pos p3, show nfn m = 40 by simp [nfn, hk, p3]]
    refine (putEntry_any _ h' h0 h1 wf.ok wf.b).mono ?_
    rintro a w1 ⟨rfl, k⟩
    rw [ptv_eq] at k
    exact ⟨rfl, Mi.of (m' := { m with pc := 4 }) k (by simp [nxt, nfn, hk]) (by simp [rOf]) (by simp [xOf]) (fun _ => ⟨rfl, rfl, rfl⟩)⟩
  rw [if_neg p3, show nfn m = 46 by simp [nfn, hk, p1, p2, p3]]
  refine (showEntry_any _ h' h0 h1).mono ?_
  rintro a w1 ⟨rfl, k⟩
  rw [ptv_eq, u64w_eq] at k
  exact ⟨rfl, Mi.of (m' := fin m 1 0) k (by simp [nxt, fin]) (by simp [rOf, fin]) (by simp [xOf, fin]) (fun hn => absurd rfl hn)⟩

theorem next_pop (h : Mi w0 w M S D m L c) (hp : m.pc ≠ 0) (hk : m.kind = 2) (wf : Wf m) (h0 : 0 ≤ c) (h1 : c ≤ 1000000000) :
    Calls Try.prog (nfn m) #[ptr M, ptr S] w fun a w' => a = .returned (.tuple #[]) ∧ Mi w0 w' M S D (stp L m).2 (stp L m).1 (c + 1) := by
  have h' := h.at hp
  have es : stp L m = popS L m := by simp [stp, hp, hk]
  rw [es]
  unfold popS
  by_cases p1 : m.pc = 1
  · rw [if_pos p1, show nfn m = 31 by simp [nfn, hk, p1]]
    refine (seeLast_any _ h' h0 h1).mono ?_
    rintro a w1 ⟨rfl, k⟩
    rw [ldv_eq, u64w_eq] at k
    exact ⟨rfl, Mi.of (m' := { m with pc := 2, b := u64w (ldq L m.e.bot - 1) }) k (by simp [nxt, nfn, hk]) (by simp [rOf]) (by simp [xOf]) (fun _ => ⟨rfl, rfl, rfl⟩)⟩
  rw [if_neg p1]
  by_cases p2 : m.pc = 2
  · rw [if_pos p2, show nfn m = 36 by simp [nfn, hk, p2]]
    refine (hideLast_any _ h' h0 h1).mono ?_
    rintro a w1 ⟨rfl, k⟩
    rw [ptv_eq] at k
    exact ⟨rfl, Mi.of (m' := { m with pc := 3 }) k (by simp [nxt, nfn, hk]) (by simp [rOf]) (by simp [xOf]) (fun _ => ⟨rfl, rfl, rfl⟩)⟩
  rw [if_neg p2]
  by_cases p3 : m.pc = 3
  · rw [if_pos p3, show nfn m = 41 by simp [nfn, hk, p3]]
    refine (seeAny_any _ h' h0 h1).mono ?_
    rintro a w1 ⟨rfl, k⟩
    rw [ldv_eq, ahead_eq] at k
    refine ⟨rfl, ?_⟩
    by_cases hc : 0 < ahead (ldq L m.e.top) m.b
    · rw [if_pos hc]
      simp only [if_pos hc] at k
      exact Mi.of (m' := { m with pc := 7, t := ldq L m.e.top }) k (by simp [nxt, nfn, hk]) (by simp [rOf]) (by simp [xOf]) (fun _ => ⟨rfl, rfl, rfl⟩)
    · rw [if_neg hc]
      simp only [if_neg hc] at k
      exact Mi.of (m' := { m with pc := 4, t := ldq L m.e.top }) k (by simp [nxt, nfn, hk]) (by simp [rOf]) (by simp [xOf]) (fun _ => ⟨rfl, rfl, rfl⟩)
  rw [if_neg p3]
  by_cases p4 : m.pc = 4
  · rw [if_pos p4, show nfn m = 48 by simp [nfn, hk, p4]]
    refine (takeLast_any _ h' h0 h1 wf.ok wf.b).mono ?_
    rintro a w1 ⟨rfl, k⟩
    rw [ldv_eq, ahead_eq] at k
    refine ⟨rfl, ?_⟩
    by_cases hc : 0 < ahead m.b m.t
    · rw [if_pos hc]
      simp only [if_pos hc] at k
      exact Mi.of (m' := fin m 1 (ldq L (entOf m.e m.b))) k (by simp [nxt, fin]) (by simp [rOf, fin]) (by simp [xOf, fin]) (fun hn => absurd rfl hn)
    · rw [if_neg hc]
      simp only [if_neg hc] at k
      exact Mi.of (m' := { m with pc := 5, w := ldq L (entOf m.e m.b) }) k (by simp [nxt, nfn, hk]) (by simp [rOf]) (by simp [xOf]) (fun _ => ⟨rfl, rfl, rfl⟩)
  rw [if_neg p4]
  by_cases p5 : m.pc = 5
  · rw [if_pos p5, show nfn m = 50 by simp [nfn, hk, p5]]
    refine (contend_any _ h' h0 h1).mono ?_
    rintro a w1 ⟨rfl, k⟩
    simp only [swB_iff, swv_eq, u64w_eq] at k
    refine ⟨rfl, ?_⟩
    by_cases hc : (0 ≤ m.e.top ∧ m.e.top < L.length) ∧ L.getD m.e.top.toNat 0 = m.t
    · rw [if_pos hc]
      simp only [if_pos hc] at k
      exact Mi.of (m' := { m with pc := 6, won := true }) k (by simp [nxt, nfn, hk]) (by simp [rOf]) (by simp [xOf]) (fun _ => ⟨rfl, rfl, rfl⟩)
    · rw [if_neg hc]
      simp only [if_neg hc] at k
      exact Mi.of (m' := { m with pc := 6, won := false }) k (by simp [nxt, nfn, hk]) (by simp [rOf]) (by simp [xOf]) (fun _ => ⟨rfl, rfl, rfl⟩)
  rw [if_neg p5]
  by_cases p6 : m.pc = 6
  · rw [if_pos p6]
    by_cases hw : m.won = true
    · rw [if_pos hw, show nfn m = 52 by simp [nfn, hk, p6, hw]]
      refine (leaveTaken_any _ h' h0 h1).mono ?_
      rintro a w1 ⟨rfl, k⟩
      rw [ptv_eq, u64w_eq] at k
      exact ⟨rfl, Mi.of (m' := fin m 1 m.w) k (by simp [nxt, fin]) (by simp [rOf, fin]) (by simp [xOf, fin]) (fun hn => absurd rfl hn)⟩
    · rw [if_neg hw, show nfn m = 47 by simp [nfn, hk, p6, hw]]
      refine (leaveNone_any _ h' h0 h1).mono ?_
      rintro a w1 ⟨rfl, k⟩
      rw [ptv_eq, u64w_eq] at k
      exact ⟨rfl, Mi.of (m' := fin m 3 0) k (by simp [nxt, fin]) (by simp [rOf, fin]) (by simp [xOf, fin]) (fun hn => absurd rfl hn)⟩
  rw [if_neg p6, show nfn m = 47 by simp [nfn, hk, p1, p2, p3, p4, p5, p6]]
  refine (leaveNone_any _ h' h0 h1).mono ?_
  rintro a w1 ⟨rfl, k⟩
  rw [ptv_eq, u64w_eq] at k
  exact ⟨rfl, Mi.of (m' := fin m 3 0) k (by simp [nxt, fin]) (by simp [rOf, fin]) (by simp [xOf, fin]) (fun hn => absurd rfl hn)⟩

theorem next_steal (h : Mi w0 w M S D m L c) (hp : m.pc ≠ 0) (hk1 : m.kind ≠ 1) (hk : m.kind ≠ 2) (wf : Wf m) (h0 : 0 ≤ c) (h1 : c ≤ 1000000000) :
    Calls Try.prog (nfn m) #[ptr M, ptr S] w fun a w' => a = .returned (.tuple #[]) ∧ Mi w0 w' M S D (stp L m).2 (stp L m).1 (c + 1) := by
  have h' := h.at hp
  have es : stp L m = stealS L m := by simp [stp, hp, hk, hk1]
  rw [es]
  unfold stealS
  by_cases p1 : m.pc = 1
  · rw [if_pos p1, show nfn m = 32 by simp [nfn, hk, hk1, p1]]
    refine (seeFirst_any _ h' h0 h1).mono ?_
    rintro a w1 ⟨rfl, k⟩
    rw [ldv_eq] at k
    exact ⟨rfl, Mi.of (m' := { m with pc := 2, t := ldq L m.e.top }) k (by simp [nxt, nfn, hk, hk1]) (by simp [rOf]) (by simp [xOf]) (fun _ => ⟨rfl, rfl, rfl⟩)⟩
  rw [if_neg p1]
  by_cases p2 : m.pc = 2
  · rw [if_pos p2, show nfn m = 37 by simp [nfn, hk, hk1, p2]]
    refine (seeMore_any _ h' h0 h1).mono ?_
    rintro a w1 ⟨rfl, k⟩
    rw [ldv_eq, ahead_eq] at k
    refine ⟨rfl, ?_⟩
    by_cases hc : ahead (ldq L m.e.bot) m.t ≤ 0
    · rw [if_pos hc]
      simp only [if_pos hc] at k
      exact Mi.of (m' := fin m 3 0) k (by simp [nxt, fin]) (by simp [rOf, fin]) (by simp [xOf, fin]) (fun hn => absurd rfl hn)
    · rw [if_neg hc]
      simp only [if_neg hc] at k
      exact Mi.of (m' := { m with pc := 3, b := ldq L m.e.bot }) k (by simp [nxt, nfn, hk, hk1]) (by simp [rOf]) (by simp [xOf]) (fun _ => ⟨rfl, rfl, rfl⟩)
  rw [if_neg p2]
  by_cases p3 : m.pc = 3
  · rw [if_pos p3, show nfn m = 42 by simp [nfn, hk, hk1, p3]]
    refine (seeEntry_any _ h' h0 h1 wf.ok wf.t).mono ?_
    rintro a w1 ⟨rfl, k⟩
    rw [ldv_eq] at k
    exact ⟨rfl, Mi.of (m' := { m with pc := 4, w := ldq L (entOf m.e m.t) }) k (by simp [nxt, nfn, hk, hk1]) (by simp [rOf]) (by simp [xOf]) (fun _ => ⟨rfl, rfl, rfl⟩)⟩
  rw [if_neg p3, show nfn m = 49 by simp [nfn, hk, hk1, p1, p2, p3]]
  refine (takeFirst_any _ h' h0 h1).mono ?_
  rintro a w1 ⟨rfl, k⟩
  simp only [swB_iff, swv_eq, u64w_eq] at k
  refine ⟨rfl, ?_⟩
  by_cases hc : (0 ≤ m.e.top ∧ m.e.top < L.length) ∧ L.getD m.e.top.toNat 0 = m.t
  · rw [if_pos hc]
    simp only [if_pos hc] at k
    exact Mi.of (m' := fin m 1 m.w) k (by simp [nxt, fin]) (by simp [rOf, fin]) (by simp [xOf, fin]) (fun hn => absurd rfl hn)
  · rw [if_neg hc]
    simp only [if_neg hc] at k
    exact Mi.of (m' := fin m 4 0) k (by simp [nxt, fin]) (by simp [rOf, fin]) (by simp [xOf, fin]) (fun hn => absurd rfl hn)

theorem next_any (h : Mi w0 w M S D m L c) (hp : m.pc ≠ 0) (wf : Wf m) (h0 : 0 ≤ c) (h1 : c ≤ 1000000000) :
    Calls Try.prog (nfn m) #[ptr M, ptr S] w fun a w' => a = .returned (.tuple #[]) ∧ Mi w0 w' M S D (stp L m).2 (stp L m).1 (c + 1) := by
  by_cases k1 : m.kind = 1
  · exact next_push h hp k1 wf h0 h1
  by_cases k2 : m.kind = 2
  · exact next_pop h hp k2 wf h0 h1
  exact next_steal h hp k1 k2 wf h0 h1
end
end Go.Proofs.Ytjnenpflpckimaa
